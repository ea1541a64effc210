/-
Lis Sn Ixhan Ixwrg Sc1 Ixmis Sc2 Sc3
-/
import Derived.Test.YtelceoecekfamaaGreatQ01
import Derived.Test.YtelceoecekfamaaGreatQ02
import Derived.Test.YtelceoecekfamaaGreatQ05
import Derived.BigQuiet
import Derived.Deep.RegionWith
set_option linter.unusedSimpArgs false
set_option linter.unusedVariables false
set_option maxRecDepth 100000
set_option maxHeartbeats 8000000
namespace Go.Proofs.YtelceoecekfamaaGreat
open Go.RowKit
variable {f:Fn}{α:Type}{g:α→Nat}{k:Nat}{m:Mod}{xs:List α}{z:Int}
theorem qJ {P:Prop} (h:P:=by
 clear h0 h1 h2 h3 h4 g0 g1 g2 hR
 go_enter Tryz.func62,Tryz.ntmps62
 go_wp2_with fail
 go_ret;exact⟨by rw[HN.out,←dge];rfl,HBel.out⟩):P:=h
theorem qX {P:Prop} (h:P:=by
 go_wp2_with fail
 go_quiet (fail)
 go_wp2_with fail
 go_ret;exact⟨by rw[HN.out];rfl,qCE HBel.out _ HBel.out.size⟩):P:=h
theorem qk {P:Prop} (h:P:=by
 obtain rfl:k=n:=by omega
 go_wp2_with fail
 go_ret;exact⟨_,rfl,by rw[qCW HA.out HL.out];rfl,HB.out⟩):P:=h
theorem ql {P:Prop} (h:P:=by
 generalize r.length=rl at*;have hk0:0≤(k:Int):=by omega
 clear h0 h1 h2 h3 h4 g0 g1 g2 hR hr hc
 go_enter Tryz.func62,Tryz.ntmps62
 go_wp2_with fail
 go_quiet (fail)
 go_wp2_with fail
 go_ret;exact⟨by show Ending.returned (Value.bool (decide (n0≤k) || decide ((rl:Int)≤b)))=_;rw[HN.out,←dge,decide_eq_false (show ¬n0≤k by omega)];rfl,qCE HBel.out _ HBel.out.size⟩):P:=h
theorem zG {P:Prop} (h:P:=by
 go_ret;exact⟨_,rfl,by rw[E.out];simp,Hb2.out⟩):P:=h
theorem zN {P:Prop} (h:P:=by
 have hge:(n0:Int)≤a:=by omega
 have hd:decide (a<(n0:Int))=false:=by simp;omega
 clear h0 h1 h2 h3 h4 g0 g1 g2 hR
 go_enter Tryz.func62,Tryz.ntmps62
 exact qX):P:=h
theorem j7 {P Q:Prop} (q:Q) (h:Q→P:=by
 have HBW:Hid (Below w.heap.size w W):=by show Below _ _ _;rw[hW];exact HB0.out
 have HCW:Hid (C5 w.heap.size (.slice A0 n0 d0) (.slice A1 n1 d1) (.slice A2 n2 d2) (.slice A3 n3 d3) (.slice A4 n4 d4) W):=by rw[hW];show C5 _ _ _ _ _ _ _;simp[C5,go_sem]
 have hWz:w.heap.size<W.heap.size:=by rw[hW];simp
 intro kz;revert HBW HCW hWz;exact kz):P:=h q
def Ub {α:Type} (g:α→Nat) (xs:List α) (k:Nat) (z:Int):Prop:=∀j p,j<k→xs[j]? =some p→(g p:Int)≤z
theorem Ub.zero (g:α→Nat) (xs:List α) (z:Int):Ub g xs 0 z:=fun j p h=>absurd h (by omega)
theorem Ub.mono {z':Int} (h:Ub g xs k z) (hz:z≤z'):Ub g xs k z':=fun j p h1 h2=>Int.le_trans (h j p h1 h2) hz
theorem Ub.step {z':Int} {p:α} (h:Ub g xs k z) (hp:xs[k]? =some p) (hz:z≤z') (hg:(g p:Int)≤z'):Ub g xs (k+1) z':=fun j q h1 h2=>by
 by_cases e:j=k
 · subst e
   rw[hp] at h2;injection h2 with h2;subst h2;exact hg
 · exact Int.le_trans (h j q (by omega) h2) hz
theorem Ub.all {n:Nat} (h:Ub g xs n z) (hn:xs.length=n):∀p∈xs,(g p:Int)≤z:=fun p hp=>by
 obtain⟨j,hj⟩:=qBM.1 hp;exact h j p (by rw[←hn];exact(qAj.1 hj).1) hj
theorem qH3 (cs:List Value) (x:Mod) (w:World) (h:modL.R (·<w.heap.size) w cs x) (hz:Zm x):Calls Tryz.prog 4 #[vAgg cs] w fun e w'=>∃b:Bool,e= .returned (.bool b)∧Below w.heap.size w w'∧(b=true→Small x):=by
 have hR:reachBytes<140737488355328:=reachBytes_lt;obtain⟨⟨r0,y0⟩,⟨r1,y1⟩,⟨r2,y2⟩,⟨r3,-⟩,r4,y4⟩:=hz;have Z0:Hid (∀t∈x.recs,t.length<140737488355328):=fun t ht=>Nat.lt_of_le_of_lt (y0 t ht).1 hR;have Z1:Hid (∀f∈x.funcs,f.args.length<140737488355328∧f.locs.length<140737488355328∧f.code.length<140737488355328):=fun f hf=>⟨Nat.lt_of_le_of_lt (y1 f hf).1.1 hR,Nat.lt_of_le_of_lt (y1 f hf).2.1.1 hR,Nat.lt_of_le_of_lt (y1 f hf).2.2.1 hR⟩;have Z2:Hid (∀f∈x.imps,f.args.length<140737488355328):=fun f hf=>Nat.lt_of_le_of_lt (y2 f hf).1 hR;have Z4:Hid (∀s∈x.texts,s.length<140737488355328):=fun s hs=>Nat.lt_of_le_of_lt (y4 s hs) hR;replace r0:x.recs.length<140737488355328:=Nat.lt_of_le_of_lt r0 hR;replace r1:x.funcs.length<140737488355328:=Nat.lt_of_le_of_lt r1 hR;replace r2:x.imps.length<140737488355328:=Nat.lt_of_le_of_lt r2 hR;replace r3:x.ints.length<140737488355328:=Nat.lt_of_le_of_lt r3 hR;replace r4:x.texts.length<140737488355328:=Nat.lt_of_le_of_lt r4 hR;clear hR y0 y1 y2 y4;obtain⟨_,_,_,_,_,rfl,⟨A0,d0,e0,l0,m0,s0⟩,⟨A1,d1,e1,l1,m1,s1⟩,⟨A2,d2,e2,l2,m2,s2⟩,⟨A3,d3,e3,l3,m3,s3⟩,⟨A4,d4,e4,l4,m4,s4⟩⟩:=h;simp only[List.cons.injEq,and_true] at e0 e1 e2 e3 e4;subst e0 e1 e2 e3 e4;unfold maxLen at m0 m1 m2 m3 m4
 show Calls Tryz.prog 4 #[.agg #[.slice A0 x.recs.length d0,.slice A1 x.funcs.length d1,.slice A2 x.imps.length d2,.slice A3 x.ints.length d3,.slice A4 x.texts.length d4]] w _
 refine jG ?_;intro n0 hn0 HL0 HS0 n1 hn1 HL1 HS1 n2 hn2 HL2 HS2 n3 hn3 HL3 HS3 n4 hn4 HL4;have HS4:=qAg s4;rw[hn0,hn1,hn2,hn3,hn4];rw[hn0] at l0 r0;rw[hn1] at l1 r1;rw[hn2] at l2 r2;rw[hn3] at l3 r3;rw[hn4] at l4 r4;clear hn0 s0 hn1 s1 hn2 s2 hn3 s3 hn4 s4;have hw0:(n0:Int)≤9223372036854775807:=by omega
 have hw1:(n1:Int)≤9223372036854775807:=by omega
 have hw2:(n2:Int)≤9223372036854775807:=by omega
 have hw4:(n4:Int)≤9223372036854775807:=by omega
 refine jp ?_;intro HB0
 go_enter Tryz.func4,Tryz.ntmps4
 go_wp2_with fail
 · go_ret
   exact⟨_,rfl,HB0.out,fun h=>by simp at h⟩
 have hsum:n0+n1+n2+n3+n4≤200:=by omega
 refine qAs fun W hW=> ?_;refine j7 ?_;intro HBW HCW hWz;have HZ:Hid (∀wr,Below W.heap.size W wr→C5 w.heap.size (.slice A0 n0 d0) (.slice A1 n1 d1) (.slice A2 n2 d2) (.slice A3 n3 d3) (.slice A4 n4 d4) wr):=fun wr hb=>HCW.out.below hb hWz;have HFin:Hid (∀wr,Below W.heap.size W wr→Below w.heap.size w wr):=fun wr hb=>HBW.out.trans (hb.mono HBW.out.size);clear hW HB0 HCW;have HA0:=qAg ((HS0.out.below HBW.out (qAi _)).wide (T:=(·<W.heap.size)) fun b hb=>qAh hb HBW.out.size);clear HS0;have HA1:=qAg ((HS1.out.below HBW.out (qAi _)).wide (T:=(·<W.heap.size)) fun b hb=>qAh hb HBW.out.size);clear HS1;have HA2:=qAg ((HS2.out.below HBW.out (qAi _)).wide (T:=(·<W.heap.size)) fun b hb=>qAh hb HBW.out.size);clear HS2;have HA3:=qAg ((HS3.out.below HBW.out (qAi _)).wide (T:=(·<W.heap.size)) fun b hb=>qAh hb HBW.out.size);clear HS3;have HA4:=qAg ((HS4.out.below HBW.out (qAi _)).wide (T:=(·<W.heap.size)) fun b hb=>qAh hb HBW.out.size);clear HS4
 go_loopw [3,4] (fun s i wr=>∃(z:Int) (k:Nat),s= .int .i64 z∧k≤n0∧i= .int .i64 (k:Nat)∧0≤z∧z≤200+(k:Int)*140737488355328∧Ub List.length x.recs k z∧Below W.heap.size W wr) (fun _ i _=>n0-(intOf i).toNat)
 case atStart=>exact⟨_,0,rfl,qAq _,rfl,by omega,by omega,Ub.zero _ _ _,qAk _ _⟩
 case round=>
  obtain⟨z,k,rfl,hk,rfl,hz0,hz1,g0,hbel⟩:=hrel;have HU0:=qAg g0;clear g0;refine jc ?_;intro HB hs;clear hbel
  by_cases hlt:k<n0
  · obtain⟨p,hp⟩:∃p,x.recs[k]? =some p:=⟨x.recs[k]'(by rw[HL0.out];exact hlt),List.getElem?_eq_getElem _⟩
    have HP:=qAg hp;have hm:=qAl hp;obtain⟨a,cs,ea,hab,hc,hR⟩:=HA0.out.at hp;clear hp;subst ea;have hb9:=Z0.out p hm;obtain⟨P0,c3,rfl,-,-,-⟩:=hR;have ca0:=(HB.out.cell (p:=a.add k) qB).trans (qBI (K:=tysL.k) rfl (hc 0 _ rfl));obtain⟨v1,hv1⟩:∃v,p.length=v:=⟨_,rfl⟩;rw[hv1] at ca0 hb9;have HV1:=qAg hv1;clear hc hm hv1;refine qAS ?_;intro z0 z1 z2 z3 z4 k0';have k1':(k:Int)<(n0:Int):=by omega
    go_wp2_with fail
    exact⟨⟨z+(v1:Int),k+1,rfl,by omega,by simp,by omega,by omega,HU0.out.step HP.out (by omega) (by simp only[HV1.out];omega),HB.out⟩,by simp[intOf];omega⟩
  · obtain rfl:k=n0:=by omega
    obtain⟨n0,hnn⟩:∃n,n=k:=⟨_,rfl⟩;subst hnn;obtain⟨z0,z1,z2,z3,z4⟩:=HZ.out wr HB.out
    go_wp2_with fail
    go_loopw [3,5] (fun s i wr=>∃(z:Int) (k:Nat),s= .int .i64 z∧k≤n1∧i= .int .i64 (k:Nat)∧0≤z∧z≤28147497671065800+(k:Int)*422212465065984∧Ub List.length x.recs n0 z∧Ub (fun f=>List.length (Fn.args f)) x.funcs k z∧Ub (fun f=>List.length (Fn.locs f)) x.funcs k z∧Ub (fun f=>List.length (Fn.code f)) x.funcs k z∧Below W.heap.size W wr) (fun _ i _=>n1-(intOf i).toNat)
    case atStart=>exact⟨_,0,rfl,qAq _,rfl,by omega,by omega,HU0.out,Ub.zero _ _ _,Ub.zero _ _ _,Ub.zero _ _ _,HB.out⟩
    case round=>
     obtain⟨z,k,rfl,hk,rfl,hz0,hz1,o0,g0,g1,g2,hbel⟩:=hrel;clear HB;clear HU0;have HU0:=qAg o0;have HU1:=qAg g0;have HU2:=qAg g1;have HU3:=qAg g2;clear o0 g0 g1 g2;refine jc ?_;intro HB hs;clear hbel
     by_cases hlt:k<n1
     · refine qAP ?_;intro p hp
       have HP:=qAg hp;have hm:=qAl hp;obtain⟨a,cs,ea,hab,hc,hR⟩:=HA1.out.at hp;clear hp;subst ea;obtain⟨hb7,hb8,hb9⟩:=Z1.out p hm;obtain⟨_,_,_,rfl,-,-,⟨P0,c3,e4,-⟩,⟨P2,c5,e6,-⟩,⟨P4,c7,e8,-⟩⟩:=hR;simp only[List.cons.injEq,and_true] at e4 e6 e8;subst e4 e6 e8;have ca0:=(HB.out.cell (p:=a.add (k*5)) qB).trans (hc 0 _ rfl);have ca1:=(HB.out.cell (p:=a.add (k*5+1)) qB).trans (hc 1 _ rfl);rw[qAm a (k*5) 1 (by omega)] at ca1;have ca2:=(HB.out.cell (p:=a.add (k*5+2)) qB).trans (hc 2 _ rfl);rw[qAm a (k*5) 2 (by omega)] at ca2;have ca3:=(HB.out.cell (p:=a.add (k*5+3)) qB).trans (hc 3 _ rfl);rw[qAm a (k*5) 3 (by omega)] at ca3;have ca4:=(HB.out.cell (p:=a.add (k*5+4)) qB).trans (hc 4 _ rfl);rw[qAm a (k*5) 4 (by omega)] at ca4;obtain⟨v1,hv1⟩:∃v,p.args.length=v:=⟨_,rfl⟩;obtain⟨v2,hv2⟩:∃v,p.locs.length=v:=⟨_,rfl⟩;obtain⟨v3,hv3⟩:∃v,p.code.length=v:=⟨_,rfl⟩;rw[hv1] at ca0 hb7;rw[hv2] at ca3 hb8;rw[hv3] at ca4 hb9;have HV1:=qAg hv1;have HV2:=qAg hv2;have HV3:=qAg hv3;clear hc hm hv1 hv2 hv3;refine qAS ?_;intro z0 z1 z2 z3 z4 k0';have k1':(k:Int)<(n1:Int):=by omega
       go_wp2_with fail
       go_quiet (fail)
       go_wp2_with fail
       exact⟨⟨z+(v1:Int)+(v2:Int)+(v3:Int),k+1,rfl,by omega,by simp,by omega,by omega,HU0.out.mono (by omega),HU1.out.step HP.out (by omega) (by simp only[HV1.out];omega),HU2.out.step HP.out (by omega) (by simp only[HV2.out];omega),HU3.out.step HP.out (by omega) (by simp only[HV3.out];omega),qCE HB.out _ hs⟩,by simp[intOf];omega⟩
     · obtain rfl:k=n1:=by omega
       obtain⟨n1,hnn⟩:∃n,n=k:=⟨_,rfl⟩;subst hnn;obtain⟨z0,z1,z2,z3,z4⟩:=HZ.out wr HB.out
       go_wp2_with fail
       go_loopw [3,6] (fun s i wr=>∃(z:Int) (k:Nat),s= .int .i64 z∧k≤n2∧i= .int .i64 (k:Nat)∧0≤z∧z≤112589990684262600+(k:Int)*140737488355328∧Ub List.length x.recs n0 z∧Ub (fun f=>List.length (Fn.args f)) x.funcs n1 z∧Ub (fun f=>List.length (Fn.locs f)) x.funcs n1 z∧Ub (fun f=>List.length (Fn.code f)) x.funcs n1 z∧Ub (fun f=>List.length (Imp.args f)) x.imps k z∧Below W.heap.size W wr) (fun _ i _=>n2-(intOf i).toNat)
       case atStart=>exact⟨_,0,rfl,qAq _,rfl,by omega,by omega,HU0.out,HU1.out,HU2.out,HU3.out,Ub.zero _ _ _,HB.out⟩
       case round=>
        obtain⟨z,k,rfl,hk,rfl,hz0,hz1,o0,o1,o2,o3,g0,hbel⟩:=hrel;clear HB;clear HU0 HU1 HU2 HU3;have HU0:=qAg o0;have HU1:=qAg o1;have HU2:=qAg o2;have HU3:=qAg o3;have HU4:=qAg g0;clear o0 o1 o2 o3 g0;refine jc ?_;intro HB hs;clear hbel
        by_cases hlt:k<n2
        · refine qAR ?_;intro p hp
          have HP:=qAg hp;have hm:=qAl hp;obtain⟨a,cs,ea,hab,hc,hR⟩:=HA2.out.at hp;clear hp;subst ea;have hb9:=Z2.out p hm;obtain⟨_,rfl,-,-,⟨P0,c3,e4,-⟩⟩:=hR;simp only[List.cons.injEq,and_true] at e4;subst e4;have ca0:=(HB.out.cell (p:=a.add (k*3)) qB).trans (hc 0 _ rfl);have ca1:=(HB.out.cell (p:=a.add (k*3+1)) qB).trans (hc 1 _ rfl);rw[qAm a (k*3) 1 (by omega)] at ca1;have ca2:=(HB.out.cell (p:=a.add (k*3+2)) qB).trans (hc 2 _ rfl);rw[qAm a (k*3) 2 (by omega)] at ca2;obtain⟨v1,hv1⟩:∃v,p.args.length=v:=⟨_,rfl⟩;rw[hv1] at ca0 hb9;have HV1:=qAg hv1;clear hc hm hv1;refine qAS ?_;intro z0 z1 z2 z3 z4 k0';have k1':(k:Int)<(n2:Int):=by omega
          go_wp2_with fail
          exact⟨⟨z+(v1:Int),k+1,rfl,by omega,by simp,by omega,by omega,HU0.out.mono (by omega),HU1.out.mono (by omega),HU2.out.mono (by omega),HU3.out.mono (by omega),HU4.out.step HP.out (by omega) (by simp only[HV1.out];omega),HB.out⟩,by simp[intOf];omega⟩
        · obtain rfl:k=n2:=by omega
          obtain⟨n2,hnn⟩:∃n,n=k:=⟨_,rfl⟩;subst hnn;obtain⟨z0,z1,z2,z3,z4⟩:=HZ.out wr HB.out
          go_wp2_with fail
          go_loopw [3,7] (fun s i wr=>∃(z:Int) (k:Nat),s= .int .i64 z∧k≤n4∧i= .int .i64 (k:Nat)∧0≤z∧z≤140737488355328200+(k:Int)*140737488355328∧Ub List.length x.recs n0 z∧Ub (fun f=>List.length (Fn.args f)) x.funcs n1 z∧Ub (fun f=>List.length (Fn.locs f)) x.funcs n1 z∧Ub (fun f=>List.length (Fn.code f)) x.funcs n1 z∧Ub (fun f=>List.length (Imp.args f)) x.imps n2 z∧Ub List.length x.texts k z∧Below W.heap.size W wr) (fun _ i _=>n4-(intOf i).toNat)
          case atStart=>exact⟨_,0,rfl,qAq _,rfl,by omega,by omega,HU0.out,HU1.out,HU2.out,HU3.out,HU4.out,Ub.zero _ _ _,HB.out⟩
          case round=>
           obtain⟨z,k,rfl,hk,rfl,hz0,hz1,o0,o1,o2,o3,o4,g0,hbel⟩:=hrel;clear HB;clear HU0 HU1 HU2 HU3 HU4;have HU0:=qAg o0;have HU1:=qAg o1;have HU2:=qAg o2;have HU3:=qAg o3;have HU4:=qAg o4;have HU5:=qAg g0;clear o0 o1 o2 o3 o4 g0;refine jc ?_;intro HB hs;clear hbel
           by_cases hlt:k<n4
           · obtain⟨p,hp⟩:∃p,x.texts[k]? =some p:=⟨x.texts[k]'(by rw[HL4.out];exact hlt),List.getElem?_eq_getElem _⟩
             have HP:=qAg hp;have hm:=qAl hp;obtain⟨a,cs,ea,hab,hc,hR⟩:=HA4.out.at hp;clear hp;subst ea;have hb9:=Z4.out p hm;obtain⟨st,rfl,hst⟩:=hR;have ca0:=(HB.out.cell (p:=a.add k) qB).trans (qBI (K:=strL.k) rfl (hc 0 _ rfl));obtain⟨v1,hv1⟩:∃v,p.length=v:=⟨_,rfl⟩;have hsz:st.size=v1:=by rw[←hv1,hst,qBj]
             rw[hv1] at hb9;clear hst;have HV1:=qAg hv1;clear hc hm hv1;refine qAS ?_;intro z0 z1 z2 z3 z4 k0';have k1':(k:Int)<(n4:Int):=by omega
             go_wp2_with fail
             exact⟨⟨z+(v1:Int),k+1,rfl,by omega,by simp,by omega,by omega,HU0.out.mono (by omega),HU1.out.mono (by omega),HU2.out.mono (by omega),HU3.out.mono (by omega),HU4.out.mono (by omega),HU5.out.step HP.out (by omega) (by simp only[HV1.out];omega),HB.out⟩,by simp[intOf];omega⟩
           · obtain rfl:k=n4:=by omega
             obtain⟨n4,hnn⟩:∃n,n=k:=⟨_,rfl⟩;subst hnn;obtain⟨z0,z1,z2,z3,z4⟩:=HZ.out wr HB.out
             go_wp2_with fail
             go_ret;refine⟨_,rfl,HFin.out _ HB.out,fun hb=> ?_⟩;have hz3:z<3000:=by simpa using hb
             refine⟨fun t ht=> ?_,fun f hf=>⟨?_,?_,?_⟩,fun i hi=> ?_,fun s hs=> ?_⟩
             · have:=HU0.out.all HL0.out t ht;omega
             · have:=HU1.out.all HL1.out f hf;omega
             · have:=HU2.out.all HL1.out f hf;omega
             · have:=HU3.out.all HL1.out f hf;omega
             · have:=HU4.out.all HL2.out i hi;omega
             · have:=HU5.out.all HL4.out s hs;omega
def namedB (m:Mod) (f:Fn) (i:Ins):Bool:=
 if i.1=0 then decide (i.2.1<(m.ints.length:Int))
 else if i.1=1 then decide (i.2.1<(m.texts.length:Int))
 else if i.1=3∨i.1=4 then decide (i.2.1<(f.args.length:Int)+(f.locs.length:Int))
 else if i.1=23∨i.1=24 then decide (i.2.1<(f.code.length:Int))
 else if i.1=25 then decide (i.2.1<(m.funcs.length:Int))
 else if i.1=27 then decide (i.2.1<(m.imps.length:Int))
 else if i.1=28 then decide (i.2.1<(m.recs.length:Int))
 else if i.1=29∨i.1=30 then (match m.recs[i.2.1.toNat]? with|some r=>decide (i.2.2<(r.length:Int))|none=>false)
 else true
def hanB (t:Typ):Bool:=decide (t.1=5)
def hostB (t:Typ):Bool:=decide (t.1=1∨t.1=5)
def badFn (m:Mod) (f:Fn):Bool:=f.locs.any hanB || f.code.any fun i=> !namedB m f i
def badImp (i:Imp):Bool:=i.args.any (fun t=> !hostB t) || !hostB i.ret
def badM (m:Mod):Bool:=m.funcs.any (badFn m) || m.imps.any badImp
def checkN (m:Mod):Int:=if fitB m=false then 2 else if badM m=true then 1 else 0
def mainB (m:Mod):Bool:=decide (checkN m=0) && (match m.funcs with|f::_=>decide (f.args.length=0) && decide (f.ret.1=1)|[]=>false)
theorem qCD (h:fitB m=false):checkN m=2:=by simp[checkN,h]
theorem qEI (h:fitB m=true) (hb:badM m=true):checkN m=1:=by simp[checkN,h,hb]
theorem qIL (h:fitB m=true) (hb:badM m=false):checkN m=0:=by simp[checkN,h,hb]
theorem qEk (h:checkN m≠0):mainB m=false:=by simp[mainB,h]
theorem qEj {fs:List Fn} (h:checkN m=0) (hf:m.funcs=f::fs):mainB m=(decide (f.args.length=0) && decide (f.ret.1=1)):=by simp[mainB,h,hf]
theorem qAw (h:checkN m=0):fitB m=true:=by
 cases hf:fitB m
 · rw[qCD hf] at h;cases h
 · rfl
theorem qDM (hf:f∈m.funcs) (h:badFn m f=true):badM m=true:=by
 rw[badM,Bool.or_eq_true];exact .inl (List.any_eq_true.2 ⟨f,hf,h⟩)
theorem qG8 {f:Imp} (hf:f∈m.imps) (h:badImp f=true):badM m=true:=by
 rw[badM,Bool.or_eq_true];exact .inr (List.any_eq_true.2 ⟨f,hf,h⟩)
theorem bad_loc {t:Typ} (ht:t∈f.locs) (h:hanB t=true):badFn m f=true:=by
 rw[badFn,Bool.or_eq_true];exact .inl (List.any_eq_true.2 ⟨t,ht,h⟩)
theorem qGC {t:Ins} (ht:t∈f.code) (h:namedB m f t=false):badFn m f=true:=by
 rw[badFn,Bool.or_eq_true];exact .inr (List.any_eq_true.2 ⟨t,ht,by rw[h];rfl⟩)
theorem qCV {g:α→Bool} {x:α} (h:(xs.take k).any g=false) (hx:xs[k]? =some x) (hg:g x=false):(xs.take (k+1)).any g=false:=by
 obtain⟨hk,rfl⟩:=qAj.1 hx;rw[qAp hk,List.any_append,h];simp[hg]
theorem qJt {g:α→Bool} {x:α} (hx:x∈xs) (hg:g x=true):xs.any g=true:=List.any_eq_true.2 ⟨x,hx,hg⟩
theorem qCW {g:α→Bool} {n:Nat} (h:(xs.take n).any g=false) (hl:xs.length=n):xs.any g=false:=by
 rwa [qAn (by omega)] at h
theorem dge (a b:Int):decide (b≤a)= !decide (a<b):=by rw[Bool.eq_iff_iff];simp
theorem qH9 (A:Option Addr) (n c:Nat) (xs:List Typ) (g:Typ→Bool) (w:World) (hl:xs.length=n) (h:Sq typL (·<w.heap.size) w A xs) (hn2:n≤9223372036854775807)
 (hG:∀(w1:World) (cs:List Value) (x:Typ),Below w.heap.size w w1→x∈xs→typL.R (·<w1.heap.size) w1 cs x→Calls Tryz.prog 38 #[vAgg cs] w1 (Tells (g x) w1)):
 Calls Tryz.prog 60 #[.slice A n c,.func (.func 38) #[] #[]] w fun e w'=>∃k:Int,e= .returned (.int .i64 k)∧decide (0≤k)=xs.any g∧Below w.heap.size w w':=by
 refine jn ?_;intro HL HS HP0;clear hl h hG
 go_enter Tryz.func60,Tryz.ntmps60
 go_wp2_with fail
 go_loopw [8] (fun i wr=>∃k:Nat,k≤n∧i= .int .i64 (k:Nat)∧(xs.take k).any g=false∧Below w.heap.size w wr) (fun i _=>n-(intOf i).toNat)
 case atStart=>exact⟨0,qAq _,rfl,by simp,qAk _ _⟩
 case round=>
  obtain⟨k,hk,rfl,hall,hbel⟩:=hrel;have HA:=qAg hall;refine jc ?_;intro HB hs;clear hall hbel
  by_cases hlt:k<n
  · skip
    refine z7 ?_;intro x hx hmem;obtain⟨a,cs,rfl,hab,hc,hr⟩:=HS.out.at hx;have HX:=qAg hx;clear hx;have HR:=qAg hr;obtain⟨rfl,-,-⟩:=hr;refine jS ?_;intro c0 c1;rw[qAm a (k*2) 1 (by omega)] at c1;have HP:Hid (∀w1,Below w.heap.size w w1→Calls Tryz.prog 38 #[.agg #[.int .i64 x.1,.int .i64 x.2]] w1 (Tells (g x) w1)):=fun w1 hb=>HP0.out w1 [.int .i64 x.1,.int .i64 x.2] x hb hmem (typL.wide (typL.keep HR.out fun b hb1=>hb.block b hb1) fun b hb1=>qAh hb1 hb.size);clear hc;have hk0:0≤(k:Int):=by omega
    cases hg:g x
    · rw[hg] at HP
      have HG:=qAg hg;clear hg
      go_wp2_with (first
       |(go_at_call 38
         refine(HP.out _ HB.out).mono ?_;rintro e w2 ⟨rfl,hb2⟩;refine qAH ?_;intro Hb2;clear hb2))
      exact qp
    · rw[hg] at HP
      refine qAd ?_;intro e E;clear e hg
      go_wp2_with (first
       |(go_at_call 38
         refine(HP.out _ HB.out).mono ?_;rintro e w2 ⟨rfl,hb2⟩;refine qAH ?_;intro Hb2;clear hb2))
      exact zG
  · exact qk
theorem qFG (A:Option Addr) (n c:Nat) (xs:List Typ) (g:Typ→Bool) (w:World) (hl:xs.length=n) (h:Sq typL (·<w.heap.size) w A xs) (hn2:n≤9223372036854775807)
 (hG:∀(w1:World) (cs:List Value) (x:Typ),Below w.heap.size w w1→x∈xs→typL.R (·<w1.heap.size) w1 cs x→Calls Tryz.prog 38 #[vAgg cs] w1 (Tells (g x) w1)):
 Calls Tryz.prog 37 #[.slice A n c,.func (.func 38) #[] #[]] w (Tells (xs.any g) w):=by
 have HC:=qAg (qH9 A n c xs g w hl h hn2 hG);clear hl h hG;generalize xs.any g=ab at*
 go_enter Tryz.func37,Tryz.ntmps37
 go_wp2_with (first|(go_at_call 60;refine HC.out.mono ?_;rintro e w1 ⟨k,rfl,hk,hb⟩;have HB:=qAg hb;have HK:=qAg hk;clear hb hk))
 go_ret;exact⟨by rw[←HK.out];rfl,HB.out⟩
theorem qH7 (A:Option Addr) (n c:Nat) (xs:List Typ) (g:Typ→Bool) (w:World) (hl:xs.length=n) (h:Sq typL (·<w.heap.size) w A xs) (hn2:n≤9223372036854775807)
 (hG:∀(w1:World) (cs:List Value) (x:Typ),Below w.heap.size w w1→x∈xs→typL.R (·<w1.heap.size) w1 cs x→Calls Tryz.prog 65 #[vAgg cs] w1 (Tells (g x) w1)):
 Calls Tryz.prog 60 #[.slice A n c,.func (.func 65) #[] #[]] w fun e w'=>∃k:Int,e= .returned (.int .i64 k)∧decide (0≤k)=xs.any g∧Below w.heap.size w w':=by
 refine jn ?_;intro HL HS HP0;clear hl h hG
 go_enter Tryz.func60,Tryz.ntmps60
 go_wp2_with fail
 go_loopw [8] (fun i wr=>∃k:Nat,k≤n∧i= .int .i64 (k:Nat)∧(xs.take k).any g=false∧Below w.heap.size w wr) (fun i _=>n-(intOf i).toNat)
 case atStart=>exact⟨0,qAq _,rfl,by simp,qAk _ _⟩
 case round=>
  obtain⟨k,hk,rfl,hall,hbel⟩:=hrel;have HA:=qAg hall;refine jc ?_;intro HB hs;clear hall hbel
  by_cases hlt:k<n
  · skip
    refine z7 ?_;intro x hx hmem;obtain⟨a,cs,rfl,hab,hc,hr⟩:=HS.out.at hx;have HX:=qAg hx;clear hx;have HR:=qAg hr;obtain⟨rfl,-,-⟩:=hr;refine jS ?_;intro c0 c1;rw[qAm a (k*2) 1 (by omega)] at c1;have HP:Hid (∀w1,Below w.heap.size w w1→Calls Tryz.prog 65 #[.agg #[.int .i64 x.1,.int .i64 x.2]] w1 (Tells (g x) w1)):=fun w1 hb=>HP0.out w1 [.int .i64 x.1,.int .i64 x.2] x hb hmem (typL.wide (typL.keep HR.out fun b hb1=>hb.block b hb1) fun b hb1=>qAh hb1 hb.size);clear hc;have hk0:0≤(k:Int):=by omega
    cases hg:g x
    · rw[hg] at HP
      have HG:=qAg hg;clear hg
      go_wp2_with (first
       |(go_at_call 65
         refine(HP.out _ HB.out).mono ?_;rintro e w2 ⟨rfl,hb2⟩;refine qAH ?_;intro Hb2;clear hb2))
      exact qp
    · rw[hg] at HP
      refine qAd ?_;intro e E;clear e hg
      go_wp2_with (first
       |(go_at_call 65
         refine(HP.out _ HB.out).mono ?_;rintro e w2 ⟨rfl,hb2⟩;refine qAH ?_;intro Hb2;clear hb2))
      exact zG
  · exact qk
theorem qFE (A:Option Addr) (n c:Nat) (xs:List Typ) (g:Typ→Bool) (w:World) (hl:xs.length=n) (h:Sq typL (·<w.heap.size) w A xs) (hn2:n≤9223372036854775807)
 (hG:∀(w1:World) (cs:List Value) (x:Typ),Below w.heap.size w w1→x∈xs→typL.R (·<w1.heap.size) w1 cs x→Calls Tryz.prog 65 #[vAgg cs] w1 (Tells (g x) w1)):
 Calls Tryz.prog 37 #[.slice A n c,.func (.func 65) #[] #[]] w (Tells (xs.any g) w):=by
 have HC:=qAg (qH7 A n c xs g w hl h hn2 hG);clear hl h hG;generalize xs.any g=ab at*
 go_enter Tryz.func37,Tryz.ntmps37
 go_wp2_with (first|(go_at_call 60;refine HC.out.mono ?_;rintro e w1 ⟨k,rfl,hk,hb⟩;have HB:=qAg hb;have HK:=qAg hk;clear hb hk))
 go_ret;exact⟨by rw[←HK.out];rfl,HB.out⟩
theorem qEn (x:Typ) (w:World) (cs:List Value) (hr:typL.R (·<w.heap.size) w cs x):Calls Tryz.prog 38 #[vAgg cs] w (Tells (hanB x) w):=by
 obtain⟨rfl,-,-⟩:=hr
 show Calls Tryz.prog 38 #[.agg #[.int .i64 x.1,.int .i64 x.2]] w (Tells (hanB x) w)
 have HD:Hid (hanB x=(x.1==5)):=by show hanB x=_;rw[Bool.eq_iff_iff];simp[hanB]
 generalize hanB x=gd at*;generalize x.1=q1 at*;generalize x.2=q2 at*
 go_enter Tryz.func38,Tryz.ntmps38
 go_wp2_with fail
 go_ret;exact⟨by rw[HD.out];rfl,(qAk _ _).alloc (qAi _) _⟩
theorem qEa (x:Typ) (w:World) (cs:List Value) (hr:typL.R (·<w.heap.size) w cs x):Calls Tryz.prog 65 #[vAgg cs] w (Tells (!hostB x) w):=by
 have HC:Hid (∀w1,Calls Tryz.prog 38 #[.agg #[.int .i64 x.1,.int .i64 x.2]] w1 (Tells (hanB x) w1)):=fun w1=>qEn x w1 _ ⟨rfl,hr.2⟩;obtain⟨rfl,-,-⟩:=hr
 show Calls Tryz.prog 65 #[.agg #[.int .i64 x.1,.int .i64 x.2]] w (Tells (!hostB x) w)
 refine jW ?_;intro HB0
 by_cases h:x.1=1
 · have HD:Hid (hostB x=true):=by show hostB x=_;simp[hostB,h]
   have b:(x.1 != 1)=false:=by simpa using h
   clear h;generalize hostB x=gd at*;generalize x.1=q1 at*;generalize x.2=q2 at*
   go_enter Tryz.func65,Tryz.ntmps65
   go_wp2_with fail
   go_ret;exact⟨by rw[HD.out];rfl,HB0.out _⟩
 · have HD:Hid (hostB x=hanB x):=by show hostB x=_;simp[hostB,hanB,h]
   have b:(x.1 != 1)=true:=by simpa using h
   clear h;generalize hostB x=gd at*;generalize hanB x=ge at*;generalize x.1=q1 at*;generalize x.2=q2 at*
   go_enter Tryz.func65,Tryz.ntmps65
   go_wp2_with (first|(go_at_call 38;refine(HC.out _).mono ?_;rintro e w1 ⟨rfl,hb⟩;have HB:=qAg ((HB0.out _).trans (hb.mono (by simp)));clear hb))
   go_ret;exact⟨by rw[HD.out];rfl,HB.out⟩
theorem qDY (x:Imp) (w:World) (cs:List Value) (hr:impL.R (·<w.heap.size) w cs x):Calls Tryz.prog 43 #[vAgg cs] w (Tells (badImp x) w):=by
 obtain⟨p0,rfl,i1,i2,⟨A4,d4,e4,l4,m4,s4⟩⟩:=hr;simp only[List.cons.injEq,and_true] at e4;subst e4
 show Calls Tryz.prog 43 #[.agg #[.slice A4 x.args.length d4,.int .i64 x.ret.1,.int .i64 x.ret.2]] w (Tells (badImp x) w)
 obtain⟨n,hn⟩:∃n,x.args.length=n:=⟨_,rfl⟩;have hn2:n≤9223372036854775807:=by unfold maxLen at m4;omega
 have T0:Hid (∀w1,Below w.heap.size w w1→Calls Tryz.prog 37 #[.slice A4 n d4,.func (.func 65) #[] #[]] w1 (Tells (x.args.any fun t=> !hostB t) w1)):=fun w1 hb=>
  qFE A4 n d4 x.args (fun t=> !hostB t) w1 hn ((s4.keep fun b hb1=>hb.block b hb1).wide fun b hb1=>qAh hb1 hb.size) hn2 fun w2 cs y _ _ hr=>qEa y w2 cs hr
 have T1:Hid (∀w1,Calls Tryz.prog 65 #[.agg #[.int .i64 x.ret.1,.int .i64 x.ret.2]] w1 (Tells (!hostB x.ret) w1)):=fun w1=>qEa x.ret w1 _ ⟨rfl,i1,i2⟩;have HO:Hid (badImp x=((x.args.any fun t=> !hostB t) || !hostB x.ret)):=rfl;rw[hn];clear hn l4 m4 s4 i1 i2;generalize badImp x=gd at*;generalize (x.args.any fun t=> !hostB t)=b1 at*;generalize (!hostB x.ret)=b2 at*;generalize x.ret.1=k1 at*;generalize x.ret.2=k2 at*;have HB0:Hid (Below w.heap.size w (w.alloc (.cells #[.slice A4 n d4,.int .i64 k1,.int .i64 k2] 56))):=(qAk _ _).alloc (qAi _) _;have HX1:Hid (∀w1,Below (w.alloc (.cells #[.slice A4 n d4,.int .i64 k1,.int .i64 k2] 56)).heap.size (w.alloc (.cells #[.slice A4 n d4,.int .i64 k1,.int .i64 k2] 56)) w1→w1.cell? ⟨w.heap.size,1,none⟩=some (.int .i64 k1)∧w1.cell? ⟨w.heap.size,2,none⟩=some (.int .i64 k2)):=fun w1 h1=>
  ⟨(h1.cell (p:=⟨w.heap.size,1,none⟩) (by simp)).trans zT,(h1.cell (p:=⟨w.heap.size,2,none⟩) (by simp)).trans zT⟩
 cases b1
 all_goals
  go_enter Tryz.func43,Tryz.ntmps43
  go_wp2_with (first
   |(go_at_call 37
     refine(T0.out _ HB0.out).mono ?_;rintro e w1 ⟨rfl,hb1⟩;have HB1:=qAg (HB0.out.trans (hb1.mono HB0.out.size));obtain⟨y1,y2⟩:=HX1.out w1 hb1;clear hb1)
   |(go_at_call 65
     refine(T1.out _).mono ?_;rintro e w2 ⟨rfl,hb2⟩;refine jX ?_;intro HB2;clear hb2))
  go_ret
 · exact⟨by rw[HO.out];rfl,HB2.out⟩
 · exact⟨by rw[HO.out];rfl,HB1.out⟩
theorem qH8 (A:Option Addr) (n c:Nat) (xs:List Ins) (g:Ins→Bool) (p7:Addr) (p8:Addr) (w:World) (hl:xs.length=n) (h:Sq insL (·<w.heap.size) w A xs) (hn2:n≤9223372036854775807)
 (hG:∀(w1:World) (cs:List Value) (x:Ins),Below w.heap.size w w1→x∈xs→insL.R (·<w1.heap.size) w1 cs x→Calls Tryz.prog 62 #[vAgg cs,.pointer (some p7),.pointer (some p8)] w1 (Tells (g x) w1)):
 Calls Tryz.prog 61 #[.slice A n c,.func (.func 62) #[] #[.pointer (some p7),.pointer (some p8)]] w fun e w'=>∃k:Int,e= .returned (.int .i64 k)∧decide (0≤k)=xs.any g∧Below w.heap.size w w':=by
 refine jn ?_;intro HL HS HP0;clear hl h hG
 go_enter Tryz.func61,Tryz.ntmps61
 go_wp2_with fail
 go_loopw [8] (fun i wr=>∃k:Nat,k≤n∧i= .int .i64 (k:Nat)∧(xs.take k).any g=false∧Below w.heap.size w wr) (fun i _=>n-(intOf i).toNat)
 case atStart=>exact⟨0,qAq _,rfl,by simp,qAk _ _⟩
 case round=>
  obtain⟨k,hk,rfl,hall,hbel⟩:=hrel;have HA:=qAg hall;refine jc ?_;intro HB hs;clear hall hbel
  by_cases hlt:k<n
  · skip
    refine z7 ?_;intro x hx hmem;obtain⟨a,cs,rfl,hab,hc,hr⟩:=HS.out.at hx;have HX:=qAg hx;clear hx;have HR:=qAg hr;obtain⟨rfl,-,-,-⟩:=hr;refine jT ?_;intro c0 c1;rw[qAm a (k*3) 1 (by omega)] at c1;refine qAI ?_;intro c2;rw[qAm a (k*3) 2 (by omega)] at c2;have HP:Hid (∀w1,Below w.heap.size w w1→Calls Tryz.prog 62 #[.agg #[.int .i64 x.1,.int .i64 x.2.1,.int .i64 x.2.2],.pointer (some p7),.pointer (some p8)] w1 (Tells (g x) w1)):=fun w1 hb=>HP0.out w1 [.int .i64 x.1,.int .i64 x.2.1,.int .i64 x.2.2] x hb hmem (insL.wide (insL.keep HR.out fun b hb1=>hb.block b hb1) fun b hb1=>qAh hb1 hb.size);clear hc;have hk0:0≤(k:Int):=by omega
    cases hg:g x
    · rw[hg] at HP
      have HG:=qAg hg;clear hg
      go_wp2_with (first
       |(go_at_call 62
         refine(HP.out _ HB.out).mono ?_;rintro e w2 ⟨rfl,hb2⟩;refine qAH ?_;intro Hb2;clear hb2))
      exact qp
    · rw[hg] at HP
      refine qAd ?_;intro e E;clear e hg
      go_wp2_with (first
       |(go_at_call 62
         refine(HP.out _ HB.out).mono ?_;rintro e w2 ⟨rfl,hb2⟩;refine qAH ?_;intro Hb2;clear hb2))
      exact zG
  · exact qk
theorem qFF (A:Option Addr) (n c:Nat) (xs:List Ins) (g:Ins→Bool) (p7:Addr) (p8:Addr) (w:World) (hl:xs.length=n) (h:Sq insL (·<w.heap.size) w A xs) (hn2:n≤9223372036854775807)
 (hG:∀(w1:World) (cs:List Value) (x:Ins),Below w.heap.size w w1→x∈xs→insL.R (·<w1.heap.size) w1 cs x→Calls Tryz.prog 62 #[vAgg cs,.pointer (some p7),.pointer (some p8)] w1 (Tells (g x) w1)):
 Calls Tryz.prog 39 #[.slice A n c,.func (.func 62) #[] #[.pointer (some p7),.pointer (some p8)]] w (Tells (xs.any g) w):=by
 have HC:=qAg (qH8 A n c xs g p7 p8 w hl h hn2 hG);clear hl h hG;generalize xs.any g=ab at*
 go_enter Tryz.func39,Tryz.ntmps39
 go_wp2_with (first|(go_at_call 61;refine HC.out.mono ?_;rintro e w1 ⟨k,rfl,hk,hb⟩;have HB:=qAg hb;have HK:=qAg hk;clear hb hk))
 go_ret;exact⟨by rw[←HK.out];rfl,HB.out⟩
theorem qE4 (A0 A1 A2 A3 A4 P0 P1 P2:Option Addr) (n0 n1 n2 n3 n4 d0 d1 d2 d3 d4 u0 u1 u2 c0 c1 c2:Nat) (r1 r2:Int) (m:Mod) (f:Fn) (o a b:Int) (w:World) (B G:Nat) (h0:m.recs.length=n0) (h1:m.funcs.length=n1) (h2:m.imps.length=n2) (h3:m.ints.length=n3) (h4:m.texts.length=n4) (g0:f.args.length=u0) (g1:f.locs.length=u1) (g2:f.code.length=u2) (hn0:n0≤9223372036854775807) (hu0:u0≤1000) (hu1:u1≤1000) (ha:0≤a∧a≤255) (hb:0≤b∧b≤255) (hR:Sq tysL (·<w.heap.size) w A0 m.recs) (hC:C5 B (.slice A0 n0 d0) (.slice A1 n1 d1) (.slice A2 n2 d2) (.slice A3 n3 d3) (.slice A4 n4 d4) w) (hD:C5 G (.slice P0 u0 c0) (.int .i64 r1) (.int .i64 r2) (.slice P1 u1 c1) (.slice P2 u2 c2) w):
 Calls Tryz.prog 62 #[.agg #[.int .i64 o,.int .i64 a,.int .i64 b],.pointer (some ⟨B,0,none⟩),.pointer (some ⟨G,0,none⟩)] w (Tells (!namedB m f (o,a,b)) w):=by
 have HBel:Hid (Below w.heap.size w (w.alloc (.cells #[.int .i64 o,.int .i64 a,.int .i64 b] 52))):=(qAk _ _).alloc (qAi _) _;have hBl:=qAr w _ hC.1;have hGl:=qAr w _ hD.1;simp only at hBl hGl;have hBn:B≠w.heap.size:=by omega
 have hGn:G≠w.heap.size:=by omega
 obtain⟨x0,x1,x2,x3,x4⟩:=hC;obtain⟨y0,y1,y2,y3,y4⟩:=hD
 by_cases e0:o=0
 · subst e0
   have HN:Hid (namedB m f (0,a,b)=decide (a<(n3:Int))):=by show namedB _ _ _=_;simp[namedB,h0,h1,h2,h3,h4,g0,g1,g2]
   generalize namedB m f (0,a,b)=nb at*;exact qJ
 by_cases e1:o=1
 · subst e1
   have HN:Hid (namedB m f (1,a,b)=decide (a<(n4:Int))):=by show namedB _ _ _=_;simp[namedB,h0,h1,h2,h3,h4,g0,g1,g2]
   generalize namedB m f (1,a,b)=nb at*;exact qJ
 by_cases e3:o=3
 · subst e3
   have HN:Hid (namedB m f (3,a,b)=decide (a<(u0:Int)+(u1:Int))):=by show namedB _ _ _=_;simp[namedB,h0,h1,h2,h3,h4,g0,g1,g2]
   generalize namedB m f (3,a,b)=nb at*;exact qJ
 by_cases e4:o=4
 · subst e4
   have HN:Hid (namedB m f (4,a,b)=decide (a<(u0:Int)+(u1:Int))):=by show namedB _ _ _=_;simp[namedB,h0,h1,h2,h3,h4,g0,g1,g2]
   generalize namedB m f (4,a,b)=nb at*;exact qJ
 by_cases e23:o=23
 · subst e23
   have HN:Hid (namedB m f (23,a,b)=decide (a<(u2:Int))):=by show namedB _ _ _=_;simp[namedB,h0,h1,h2,h3,h4,g0,g1,g2]
   generalize namedB m f (23,a,b)=nb at*;exact qJ
 by_cases e24:o=24
 · subst e24
   have HN:Hid (namedB m f (24,a,b)=decide (a<(u2:Int))):=by show namedB _ _ _=_;simp[namedB,h0,h1,h2,h3,h4,g0,g1,g2]
   generalize namedB m f (24,a,b)=nb at*;exact qJ
 by_cases e25:o=25
 · subst e25
   have HN:Hid (namedB m f (25,a,b)=decide (a<(n1:Int))):=by show namedB _ _ _=_;simp[namedB,h0,h1,h2,h3,h4,g0,g1,g2]
   generalize namedB m f (25,a,b)=nb at*;exact qJ
 by_cases e27:o=27
 · subst e27
   have HN:Hid (namedB m f (27,a,b)=decide (a<(n2:Int))):=by show namedB _ _ _=_;simp[namedB,h0,h1,h2,h3,h4,g0,g1,g2]
   generalize namedB m f (27,a,b)=nb at*;exact qJ
 by_cases e28:o=28
 · subst e28
   have HN:Hid (namedB m f (28,a,b)=decide (a<(n0:Int))):=by show namedB _ _ _=_;simp[namedB,h0,h1,h2,h3,h4,g0,g1,g2]
   generalize namedB m f (28,a,b)=nb at*;exact qJ
 by_cases e29:o=29
 · subst e29
   by_cases hlt:a<(n0:Int)
   · obtain⟨k,rfl⟩:∃k:Nat,a=(k:Int):=⟨a.toNat,by omega⟩
     refine jv ?_;intro hk r hr;have HN:Hid (namedB m f (29,(k:Int),b)=decide (b<(r.length:Int))):=by show namedB _ _ _=_;simp[namedB,hr]
     obtain⟨a0,cs,ea,hab,hc,hRr⟩:=hR.at hr;subst ea;obtain⟨Q0,q0,rfl,-,-,-⟩:=hRr;refine qAZ ?_;intro cr cr2;generalize namedB m f (29,(k:Int),b)=nb at*;exact ql
   · have HN:Hid (namedB m f (29,a,b)=false):=by
      show namedB _ _ _=_
      refine qAa ?_;intro hz;simp[namedB,hz]
     generalize namedB m f (29,a,b)=nb at*;exact zN
 by_cases e30:o=30
 · subst e30
   by_cases hlt:a<(n0:Int)
   · obtain⟨k,rfl⟩:∃k:Nat,a=(k:Int):=⟨a.toNat,by omega⟩
     refine jv ?_;intro hk r hr;have HN:Hid (namedB m f (30,(k:Int),b)=decide (b<(r.length:Int))):=by show namedB _ _ _=_;simp[namedB,hr]
     obtain⟨a0,cs,ea,hab,hc,hRr⟩:=hR.at hr;subst ea;obtain⟨Q0,q0,rfl,-,-,-⟩:=hRr;refine qAZ ?_;intro cr cr2;generalize namedB m f (30,(k:Int),b)=nb at*;exact ql
   · have HN:Hid (namedB m f (30,a,b)=false):=by
      show namedB _ _ _=_
      refine qAa ?_;intro hz;simp[namedB,hz]
     generalize namedB m f (30,a,b)=nb at*;exact zN
 refine jY ?_;intro HN b0 b1 b3 b4 b23 b24 b25 b27 b28 b29 b30;generalize namedB m f (o,a,b)=nb at*;clear h0 h1 h2 h3 h4 g0 g1 g2 hR e0 e1 e3 e4 e23 e24 e25 e27 e28 e29 e30
 go_enter Tryz.func62,Tryz.ntmps62
 go_wp2_with fail
 go_ret;exact⟨by rw[HN.out];rfl,HBel.out⟩
theorem qFp (v0 v1 v2 v3 v4 p0 p1 p2 p3 p4:Value) (w:World):
 Calls Tryz.prog 40 #[.agg #[v0,v1,v2,v3,v4],.agg #[p0,p1,p2,p3,p4]] w fun e w'=>
  e= .returned (.func (.func 62) #[] #[.pointer (some ⟨w.heap.size,0,none⟩),.pointer (some ⟨w.heap.size+1,0,none⟩)])∧Below w.heap.size w w'∧C5 w.heap.size v0 v1 v2 v3 v4 w'∧C5 (w.heap.size+1) p0 p1 p2 p3 p4 w':=by
 go_enter Tryz.func40,Tryz.ntmps40
 go_wp2_with fail
 go_ret;exact⟨rfl,((qAk _ _).alloc (qAi _) _).alloc (by simp) _,by simp[C5,go_sem],by simp[C5,go_sem]⟩
theorem qG6 (A0 A1 A2 A3 A4:Option Addr) (n0 n1 n2 n3 n4 d0 d1 d2 d3 d4:Nat) (m:Mod) (B:Nat) (x:Fn) (w:World) (h0:m.recs.length=n0) (h1:m.funcs.length=n1) (h2:m.imps.length=n2) (h3:m.ints.length=n3) (h4:m.texts.length=n4)
 (hn0:n0≤9223372036854775807) (hR:Sq tysL (·<w.heap.size) w A0 m.recs) (hC:C5 B (.slice A0 n0 d0) (.slice A1 n1 d1) (.slice A2 n2 d2) (.slice A3 n3 d3) (.slice A4 n4 d4) w)
 (cs:List Value) (hr:fnL.R (·<w.heap.size) w cs x) (hx:fnOk n0 x=true):
 Calls Tryz.prog 36 #[vAgg cs,.pointer (some ⟨B,0,none⟩)] w (Tells (badFn m x) w):=by
 obtain⟨z1,z2,z3,z4,-,-,-,z8⟩:=qCv hx;obtain⟨p0,p1,p2,rfl,i1,i2,⟨P0,c0,e4,l4,m4,s4⟩,⟨P1,c1,e5,l5,m5,s5⟩,⟨P2,c2,e6,l6,m6,s6⟩⟩:=hr;simp only[List.cons.injEq,and_true] at e4 e5 e6;subst e4 e5 e6;obtain⟨u0,g0⟩:∃n,x.args.length=n:=⟨_,rfl⟩;obtain⟨u1,g1⟩:∃n,x.locs.length=n:=⟨_,rfl⟩;obtain⟨u2,g2⟩:∃n,x.code.length=n:=⟨_,rfl⟩
 show Calls Tryz.prog 36 #[.agg #[.slice P0 x.args.length c0,.int .i64 x.ret.1,.int .i64 x.ret.2,.slice P1 x.locs.length c1,.slice P2 x.code.length c2],.pointer (some ⟨B,0,none⟩)] w (Tells (badFn m x) w)
 rw[g0,g1,g2];have T0:Hid (∀w1,Below w.heap.size w w1→Calls Tryz.prog 37 #[.slice P1 u1 c1,.func (.func 38) #[] #[]] w1 (Tells (x.locs.any hanB) w1)):=fun w1 hb=>
  qFG P1 u1 c1 x.locs hanB w1 g1 ((s5.keep fun b hb1=>hb.block b hb1).wide fun b hb1=>qAh hb1 hb.size) (by omega) fun w2 cs y _ _ hr=>qEn y w2 cs hr
 have T2:Hid (∀w1 (p7 p8:Nat),Below w.heap.size w w1→C5 p7 (.slice A0 n0 d0) (.slice A1 n1 d1) (.slice A2 n2 d2) (.slice A3 n3 d3) (.slice A4 n4 d4) w1→C5 p8 (.slice P0 u0 c0) (.int .i64 x.ret.1) (.int .i64 x.ret.2) (.slice P1 u1 c1) (.slice P2 u2 c2) w1→
  Calls Tryz.prog 39 #[.slice P2 u2 c2,.func (.func 62) #[] #[.pointer (some ⟨p7,0,none⟩),.pointer (some ⟨p8,0,none⟩)]] w1 (Tells (x.code.any fun i=> !namedB m x i) w1)):=fun w1 p7 p8 hb hc1 hc2=>
  qFF P2 u2 c2 x.code (fun i=> !namedB m x i) ⟨p7,0,none⟩ ⟨p8,0,none⟩ w1 g2 ((s6.keep fun b hb1=>hb.block b hb1).wide fun b hb1=>qAh hb1 hb.size) (by omega) fun w2 cs y hb2 hy hr=>by
   obtain⟨rfl,-⟩:=hr;obtain⟨o,a,b⟩:=y;obtain⟨o1,a1,b1,e1,e2,e3,q1,q2,q3⟩:=qA6 (op:=o) (a:=a) (b:=b) (z8 _ hy);have hb3:Below w.heap.size w w2:=hb.trans (hb2.mono hb.size);exact qE4 A0 A1 A2 A3 A4 P0 P1 P2 n0 n1 n2 n3 n4 d0 d1 d2 d3 d4 u0 u1 u2 c0 c1 c2 x.ret.1 x.ret.2 m x o a b w2 p7 p8 h0 h1 h2 h3 h4 g0 g1 g2 hn0 (by omega) (by omega) (by omega) (by omega) ((hR.keep fun b hb1=>hb3.block b hb1).wide fun b hb1=>qAh hb1 hb3.size)
    (hc1.below hb2 (qAr w1 _ hc1.1)) (hc2.below hb2 (qAr w1 _ hc2.1))
 have HO:Hid (badFn m x=(x.locs.any hanB || x.code.any fun i=> !namedB m x i)):=rfl;have HB0:Hid (Below w.heap.size w (w.alloc (.cells #[.slice P0 u0 c0,.int .i64 x.ret.1,.int .i64 x.ret.2,.slice P1 u1 c1,.slice P2 u2 c2] 44))):=(qAk _ _).alloc (qAi _) _;have HC0:Hid (C5 B (.slice A0 n0 d0) (.slice A1 n1 d1) (.slice A2 n2 d2) (.slice A3 n3 d3) (.slice A4 n4 d4) (w.alloc (.cells #[.slice P0 u0 c0,.int .i64 x.ret.1,.int .i64 x.ret.2,.slice P1 u1 c1,.slice P2 u2 c2] 44))∧C5 w.heap.size (.slice P0 u0 c0) (.int .i64 x.ret.1) (.int .i64 x.ret.2) (.slice P1 u1 c1) (.slice P2 u2 c2) (w.alloc (.cells #[.slice P0 u0 c0,.int .i64 x.ret.1,.int .i64 x.ret.2,.slice P1 u1 c1,.slice P2 u2 c2] 44))):=
  ⟨hC.below HB0.out (qAr w _ hC.1),by simp[C5,go_sem]⟩
 have hBl:=qAr w _ hC.1;simp only at hBl;clear g0 g1 g2 h0 h1 h2 h3 h4 hR hC i1 i2 s4 s5 s6 l4 l5 l6 m4 m5 m6 z8 hx;generalize badFn m x=gd at*;generalize x.locs.any hanB=b1 at*;generalize (x.code.any fun i=> !namedB m x i)=b2 at*;generalize x.ret.1=k1 at*;generalize x.ret.2=k2 at*
 go_enter Tryz.func36,Tryz.ntmps36
 go_wp2_with fail
 refine qAs fun W hW=> ?_;rw[←hW] at HB0 HC0;have hs:w.heap.size<W.heap.size:=by rw[hW];simp
 clear hW;have HKK:Hid (∀w1,Below W.heap.size W w1→C5 B (.slice A0 n0 d0) (.slice A1 n1 d1) (.slice A2 n2 d2) (.slice A3 n3 d3) (.slice A4 n4 d4) w1∧C5 w.heap.size (.slice P0 u0 c0) (.int .i64 k1) (.int .i64 k2) (.slice P1 u1 c1) (.slice P2 u2 c2) w1):=fun w1 hb=>⟨HC0.out.1.below hb (by omega),HC0.out.2.below hb hs⟩;obtain⟨⟨x0,x1,x2,x3,x4⟩,y0,y1,y2,y3,y4⟩:=HC0.out
 cases b1
 all_goals
  first|(go_region_with (first
   |(go_at_call 37
     refine(T0.out _ HB0.out.drew).mono ?_;rintro e w1 ⟨rfl,hb1⟩;have HX1:=qAg (((qAk W.heap.size W).drew).trans hb1);have HB1:=qAg (HB0.out.trans (HX1.out.mono HB0.out.size));obtain⟨⟨q0,q1,q2,q3,q4⟩,t0,t1,t2,t3,t4⟩:=HKK.out w1 HX1.out;clear hb1)
   |(go_at_call 40
     refine(qFp _ _ _ _ _ _ _ _ _ _ _).mono ?_;rintro e w2 ⟨rfl,hb2,hc2,hc3⟩;have HX2:=qAg (HX1.out.trans (hb2.mono HX1.out.size));have HB2:=qAg (HB0.out.trans (HX2.out.mono HB0.out.size));obtain⟨⟨r0,r1,r2,r3,r4⟩,s0,s1,s2,s3,s4⟩:=HKK.out w2 HX2.out;have HM2:=qAg hc2;have HM3:=qAg hc3;clear hb2 hc2 hc3)
   |(go_at_call 39
     refine(T2.out _ _ _ HB2.out HM2.out HM3.out).mono ?_;rintro e w3 ⟨rfl,hb3⟩;have HX3:=qAg (HX2.out.trans (hb3.mono HX2.out.size));have HB3:=qAg (HB0.out.trans (HX3.out.mono HB0.out.size));clear hb3)))|fail
 all_goals
  go_wp2_with fail
  go_ret
  first|exact⟨by rw[HO.out];rfl,HB3.out⟩|exact⟨by rw[HO.out];rfl,HB1.out⟩
end Go.Proofs.YtelceoecekfamaaGreat
