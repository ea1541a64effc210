/-
Lis Sn Fl Irp Tyr Raw Bn Bk0 Bks
-/
import Derived.Test.YtelceoecekfamaaQ01
import Derived.Test.YtelceoecekfamaaQ02
import Derived.Test.YtelceoecekfamaaQ05
import Derived.BigQuiet
import Derived.Lib.AppendZeros
import Derived.Deep.RegionLaw
import Derived.Maps.AppendAt
set_option linter.unusedSimpArgs false
set_option linter.unusedVariables false
set_option maxRecDepth 100000
set_option maxHeartbeats 8000000
namespace Go.Proofs.Ytelceoecekfamaa
open Go.RowKit
variable {A:Option Addr}{α:Type}{L:Lay α}{Q:Exit→Act→World→Prop}{S:Nat→Prop}{a b:List Typ}{c:Array Value}{f:Fn}{g:Nat}{i:Ins}{j k:Nat}{l:List Int}{m:Mod}{n:Nat}{o:Oper}{ops:Array Oper}{rest:List Oper}{t:Nat}{ts:List Typ}{ty:Nat}{v:Value}{w:World}{x:α}{xs:List α}{y:Typ}{ys:List Typ}{z:Int}
def Ub {α:Type} (g:α→Nat) (xs:List α) (k:Nat) (z:Int):Prop:=∀j p,j<k→xs[j]? =some p→(g p:Int)≤z
theorem Ub.zero (g:α→Nat) (xs:List α) (z:Int):Ub g xs 0 z:=fun j p h=>absurd h (by omega)
theorem Ub.mono {g:α→Nat} {z':Int} (h:Ub g xs k z) (hz:z≤z'):Ub g xs k z':=fun j p h1 h2=>Int.le_trans (h j p h1 h2) hz
theorem Ub.step {g:α→Nat} {z':Int} {p:α} (h:Ub g xs k z) (hp:xs[k]? =some p) (hz:z≤z') (hg:(g p:Int)≤z'):Ub g xs (k+1) z':=fun j q h1 h2=>by
 by_cases e:j=k
 · subst e
   rw[hp] at h2;injection h2 with h2;subst h2;exact hg
 · exact Int.le_trans (h j q (by omega) h2) hz
theorem Ub.all {g:α→Nat} (h:Ub g xs n z) (hn:xs.length=n):∀p∈xs,(g p:Int)≤z:=fun p hp=>by
 obtain⟨j,hj⟩:=qAq.1 hp;exact h j p (by rw[←hn];exact(qAH.1 hj).1) hj
theorem qHG (cs:List Value) (x:Mod) (w:World) (h:modL.R (·<w.heap.size) w cs x) (hz:Zm x):Calls Try.prog 6 #[vAgg cs] w fun e w'=>∃b:Bool,e= .returned (.bool b)∧Below w.heap.size w w'∧(b=true→Small x):=by
 have hR:reachBytes<140737488355328:=reachBytes_lt;obtain⟨⟨r0,y0⟩,⟨r1,y1⟩,⟨r2,y2⟩,⟨r3,-⟩,r4,y4⟩:=hz;have Z0:Hid (∀t∈x.recs,t.length<140737488355328):=fun t ht=>Nat.lt_of_le_of_lt (y0 t ht).1 hR;have Z1:Hid (∀f∈x.funcs,f.args.length<140737488355328∧f.locs.length<140737488355328∧f.code.length<140737488355328):=fun f hf=>⟨Nat.lt_of_le_of_lt (y1 f hf).1.1 hR,Nat.lt_of_le_of_lt (y1 f hf).2.1.1 hR,Nat.lt_of_le_of_lt (y1 f hf).2.2.1 hR⟩;have Z2:Hid (∀f∈x.imps,f.args.length<140737488355328):=fun f hf=>Nat.lt_of_le_of_lt (y2 f hf).1 hR;have Z4:Hid (∀s∈x.texts,s.length<140737488355328):=fun s hs=>Nat.lt_of_le_of_lt (y4 s hs) hR;replace r0:x.recs.length<140737488355328:=Nat.lt_of_le_of_lt r0 hR;replace r1:x.funcs.length<140737488355328:=Nat.lt_of_le_of_lt r1 hR;replace r2:x.imps.length<140737488355328:=Nat.lt_of_le_of_lt r2 hR;replace r3:x.ints.length<140737488355328:=Nat.lt_of_le_of_lt r3 hR;replace r4:x.texts.length<140737488355328:=Nat.lt_of_le_of_lt r4 hR;clear hR y0 y1 y2 y4;obtain⟨_,_,_,_,_,rfl,⟨A0,d0,e0,l0,m0,s0⟩,⟨A1,d1,e1,l1,m1,s1⟩,⟨A2,d2,e2,l2,m2,s2⟩,⟨A3,d3,e3,l3,m3,s3⟩,⟨A4,d4,e4,l4,m4,s4⟩⟩:=h;simp only[List.cons.injEq,and_true] at e0 e1 e2 e3 e4;subst e0 e1 e2 e3 e4;unfold maxLen at m0 m1 m2 m3 m4
 show Calls Try.prog 6 #[.agg #[.slice A0 x.recs.length d0,.slice A1 x.funcs.length d1,.slice A2 x.imps.length d2,.slice A3 x.ints.length d3,.slice A4 x.texts.length d4]] w _
 obtain⟨n0,hn0⟩:∃n,x.recs.length=n:=⟨_,rfl⟩;have HL0:=qAF hn0;have HS0:=qAF s0;obtain⟨n1,hn1⟩:∃n,x.funcs.length=n:=⟨_,rfl⟩;have HL1:=qAF hn1;have HS1:=qAF s1;obtain⟨n2,hn2⟩:∃n,x.imps.length=n:=⟨_,rfl⟩;have HL2:=qAF hn2;have HS2:=qAF s2;obtain⟨n3,hn3⟩:∃n,x.ints.length=n:=⟨_,rfl⟩;have HL3:=qAF hn3;have HS3:=qAF s3;obtain⟨n4,hn4⟩:∃n,x.texts.length=n:=⟨_,rfl⟩;have HL4:=qAF hn4;have HS4:=qAF s4;rw[hn0,hn1,hn2,hn3,hn4];rw[hn0] at l0 r0;rw[hn1] at l1 r1;rw[hn2] at l2 r2;rw[hn3] at l3 r3;rw[hn4] at l4 r4;clear hn0 s0 hn1 s1 hn2 s2 hn3 s3 hn4 s4;have hw0:(n0:Int)≤9223372036854775807:=by omega
 have hw1:(n1:Int)≤9223372036854775807:=by omega
 have hw2:(n2:Int)≤9223372036854775807:=by omega
 have hw4:(n4:Int)≤9223372036854775807:=by omega
 have HB0:Hid (Below w.heap.size w (w.alloc (.cells #[.slice A0 n0 d0,.slice A1 n1 d1,.slice A2 n2 d2,.slice A3 n3 d3,.slice A4 n4 d4] 28))):=(qAJ _ _).alloc (qAI _) _
 go_enter Try.func6,Try.ntmps6
 go_wp2_with fail
 · go_ret
   exact⟨_,rfl,HB0.out,fun h=>by simp at h⟩
 have hsum:n0+n1+n2+n3+n4≤200:=by omega
 refine qAR fun W hW=> ?_;have HBW:Hid (Below w.heap.size w W):=by show Below _ _ _;rw[hW];exact HB0.out
 have HCW:Hid (C5 w.heap.size (.slice A0 n0 d0) (.slice A1 n1 d1) (.slice A2 n2 d2) (.slice A3 n3 d3) (.slice A4 n4 d4) W):=by rw[hW];show C5 _ _ _ _ _ _ _;simp[C5,go_sem]
 have hWz:w.heap.size<W.heap.size:=by rw[hW];simp
 have HZ:Hid (∀wr,Below W.heap.size W wr→C5 w.heap.size (.slice A0 n0 d0) (.slice A1 n1 d1) (.slice A2 n2 d2) (.slice A3 n3 d3) (.slice A4 n4 d4) wr):=fun wr hb=>HCW.out.below hb hWz;have HFin:Hid (∀wr,Below W.heap.size W wr→Below w.heap.size w wr):=fun wr hb=>HBW.out.trans (hb.mono HBW.out.size);clear hW HB0 HCW;have HA0:=qAF ((HS0.out.below HBW.out (qAI _)).wide (T:=(·<W.heap.size)) fun b hb=>qAG hb HBW.out.size);clear HS0;have HA1:=qAF ((HS1.out.below HBW.out (qAI _)).wide (T:=(·<W.heap.size)) fun b hb=>qAG hb HBW.out.size);clear HS1;have HA2:=qAF ((HS2.out.below HBW.out (qAI _)).wide (T:=(·<W.heap.size)) fun b hb=>qAG hb HBW.out.size);clear HS2;have HA3:=qAF ((HS3.out.below HBW.out (qAI _)).wide (T:=(·<W.heap.size)) fun b hb=>qAG hb HBW.out.size);clear HS3;have HA4:=qAF ((HS4.out.below HBW.out (qAI _)).wide (T:=(·<W.heap.size)) fun b hb=>qAG hb HBW.out.size);clear HS4
 go_loopw [3,4] (fun s i wr=>∃(z:Int) (k:Nat),s= .int .i64 z∧k≤n0∧i= .int .i64 (k:Nat)∧0≤z∧z≤200+(k:Int)*140737488355328∧Ub List.length x.recs k z∧Below W.heap.size W wr) (fun _ i _=>n0-(intOf i).toNat)
 case atStart=>exact⟨_,0,rfl,qAQ _,rfl,by omega,by omega,Ub.zero _ _ _,qAJ _ _⟩
 case round=>
  obtain⟨z,k,rfl,hk,rfl,hz0,hz1,g0,hbel⟩:=hrel;have HU0:=qAF g0;clear g0;refine jc ?_;intro HB hs;clear hbel
  by_cases hlt:k<n0
  · obtain⟨p,hp⟩:∃p,x.recs[k]? =some p:=⟨x.recs[k]'(by rw[HL0.out];exact hlt),List.getElem?_eq_getElem _⟩
    have HP:=qAF hp;have hm:=qAK hp;obtain⟨a,cs,ea,hab,hc,hR⟩:=HA0.out.at hp;clear hp;subst ea;have hb9:=Z0.out p hm;obtain⟨P0,c3,rfl,-,-,-⟩:=hR;have ca0:=(HB.out.cell (p:=a.add k) qA).trans (qAz (K:=tysL.k) rfl (hc 0 _ rfl));obtain⟨v1,hv1⟩:∃v,p.length=v:=⟨_,rfl⟩;rw[hv1] at ca0 hb9;have HV1:=qAF hv1;clear hc hm hv1;obtain⟨z0,z1,z2,z3,z4⟩:=HZ.out wr HB.out;have k0':0≤(k:Int):=by omega
    have k1':(k:Int)<(n0:Int):=by omega
    go_wp2_with fail
    exact⟨⟨z+(v1:Int),k+1,rfl,by omega,by simp,by omega,by omega,HU0.out.step HP.out (by omega) (by simp only[HV1.out];omega),HB.out⟩,by simp[intOf];omega⟩
  · obtain rfl:k=n0:=by omega
    obtain⟨n0,hnn⟩:∃n,n=k:=⟨_,rfl⟩;subst hnn;obtain⟨z0,z1,z2,z3,z4⟩:=HZ.out wr HB.out
    go_wp2_with fail
    go_loopw [3,5] (fun s i wr=>∃(z:Int) (k:Nat),s= .int .i64 z∧k≤n1∧i= .int .i64 (k:Nat)∧0≤z∧z≤28147497671065800+(k:Int)*422212465065984∧Ub List.length x.recs n0 z∧Ub (fun f=>List.length (Fn.args f)) x.funcs k z∧Ub (fun f=>List.length (Fn.locs f)) x.funcs k z∧Ub (fun f=>List.length (Fn.code f)) x.funcs k z∧Below W.heap.size W wr) (fun _ i _=>n1-(intOf i).toNat)
    case atStart=>exact⟨_,0,rfl,qAQ _,rfl,by omega,by omega,HU0.out,Ub.zero _ _ _,Ub.zero _ _ _,Ub.zero _ _ _,HB.out⟩
    case round=>
     obtain⟨z,k,rfl,hk,rfl,hz0,hz1,o0,g0,g1,g2,hbel⟩:=hrel;clear HB;clear HU0;have HU0:=qAF o0;have HU1:=qAF g0;have HU2:=qAF g1;have HU3:=qAF g2;clear o0 g0 g1 g2;refine jc ?_;intro HB hs;clear hbel
     by_cases hlt:k<n1
     · obtain⟨p,hp⟩:∃p,x.funcs[k]? =some p:=⟨x.funcs[k]'(by rw[HL1.out];exact hlt),List.getElem?_eq_getElem _⟩
       have HP:=qAF hp;have hm:=qAK hp;obtain⟨a,cs,ea,hab,hc,hR⟩:=HA1.out.at hp;clear hp;subst ea;obtain⟨hb7,hb8,hb9⟩:=Z1.out p hm;obtain⟨_,_,_,rfl,-,-,⟨P0,c3,e4,-⟩,⟨P2,c5,e6,-⟩,⟨P4,c7,e8,-⟩⟩:=hR;simp only[List.cons.injEq,and_true] at e4 e6 e8;subst e4 e6 e8;have ca0:=(HB.out.cell (p:=a.add (k*5)) qA).trans (hc 0 _ rfl);have ca1:=(HB.out.cell (p:=a.add (k*5+1)) qA).trans (hc 1 _ rfl);rw[qAL a (k*5) 1 (by omega)] at ca1;have ca2:=(HB.out.cell (p:=a.add (k*5+2)) qA).trans (hc 2 _ rfl);rw[qAL a (k*5) 2 (by omega)] at ca2;have ca3:=(HB.out.cell (p:=a.add (k*5+3)) qA).trans (hc 3 _ rfl);rw[qAL a (k*5) 3 (by omega)] at ca3;have ca4:=(HB.out.cell (p:=a.add (k*5+4)) qA).trans (hc 4 _ rfl);rw[qAL a (k*5) 4 (by omega)] at ca4;obtain⟨v1,hv1⟩:∃v,p.args.length=v:=⟨_,rfl⟩;obtain⟨v2,hv2⟩:∃v,p.locs.length=v:=⟨_,rfl⟩;obtain⟨v3,hv3⟩:∃v,p.code.length=v:=⟨_,rfl⟩;rw[hv1] at ca0 hb7;rw[hv2] at ca3 hb8;rw[hv3] at ca4 hb9;have HV1:=qAF hv1;have HV2:=qAF hv2;have HV3:=qAF hv3;clear hc hm hv1 hv2 hv3;obtain⟨z0,z1,z2,z3,z4⟩:=HZ.out wr HB.out;have k0':0≤(k:Int):=by omega
       have k1':(k:Int)<(n1:Int):=by omega
       go_wp2_with fail
       go_quiet (fail)
       go_wp2_with fail
       exact⟨⟨z+(v1:Int)+(v2:Int)+(v3:Int),k+1,rfl,by omega,by simp,by omega,by omega,HU0.out.mono (by omega),HU1.out.step HP.out (by omega) (by simp only[HV1.out];omega),HU2.out.step HP.out (by omega) (by simp only[HV2.out];omega),HU3.out.step HP.out (by omega) (by simp only[HV3.out];omega),qBf HB.out _ hs⟩,by simp[intOf];omega⟩
     · obtain rfl:k=n1:=by omega
       obtain⟨n1,hnn⟩:∃n,n=k:=⟨_,rfl⟩;subst hnn;obtain⟨z0,z1,z2,z3,z4⟩:=HZ.out wr HB.out
       go_wp2_with fail
       go_loopw [3,6] (fun s i wr=>∃(z:Int) (k:Nat),s= .int .i64 z∧k≤n2∧i= .int .i64 (k:Nat)∧0≤z∧z≤112589990684262600+(k:Int)*140737488355328∧Ub List.length x.recs n0 z∧Ub (fun f=>List.length (Fn.args f)) x.funcs n1 z∧Ub (fun f=>List.length (Fn.locs f)) x.funcs n1 z∧Ub (fun f=>List.length (Fn.code f)) x.funcs n1 z∧Ub (fun f=>List.length (Imp.args f)) x.imps k z∧Below W.heap.size W wr) (fun _ i _=>n2-(intOf i).toNat)
       case atStart=>exact⟨_,0,rfl,qAQ _,rfl,by omega,by omega,HU0.out,HU1.out,HU2.out,HU3.out,Ub.zero _ _ _,HB.out⟩
       case round=>
        obtain⟨z,k,rfl,hk,rfl,hz0,hz1,o0,o1,o2,o3,g0,hbel⟩:=hrel;clear HB;clear HU0 HU1 HU2 HU3;have HU0:=qAF o0;have HU1:=qAF o1;have HU2:=qAF o2;have HU3:=qAF o3;have HU4:=qAF g0;clear o0 o1 o2 o3 g0;refine jc ?_;intro HB hs;clear hbel
        by_cases hlt:k<n2
        · obtain⟨p,hp⟩:∃p,x.imps[k]? =some p:=⟨x.imps[k]'(by rw[HL2.out];exact hlt),List.getElem?_eq_getElem _⟩
          have HP:=qAF hp;have hm:=qAK hp;obtain⟨a,cs,ea,hab,hc,hR⟩:=HA2.out.at hp;clear hp;subst ea;have hb9:=Z2.out p hm;obtain⟨_,rfl,-,-,⟨P0,c3,e4,-⟩⟩:=hR;simp only[List.cons.injEq,and_true] at e4;subst e4;have ca0:=(HB.out.cell (p:=a.add (k*3)) qA).trans (hc 0 _ rfl);have ca1:=(HB.out.cell (p:=a.add (k*3+1)) qA).trans (hc 1 _ rfl);rw[qAL a (k*3) 1 (by omega)] at ca1;have ca2:=(HB.out.cell (p:=a.add (k*3+2)) qA).trans (hc 2 _ rfl);rw[qAL a (k*3) 2 (by omega)] at ca2;obtain⟨v1,hv1⟩:∃v,p.args.length=v:=⟨_,rfl⟩;rw[hv1] at ca0 hb9;have HV1:=qAF hv1;clear hc hm hv1;obtain⟨z0,z1,z2,z3,z4⟩:=HZ.out wr HB.out;have k0':0≤(k:Int):=by omega
          have k1':(k:Int)<(n2:Int):=by omega
          go_wp2_with fail
          exact⟨⟨z+(v1:Int),k+1,rfl,by omega,by simp,by omega,by omega,HU0.out.mono (by omega),HU1.out.mono (by omega),HU2.out.mono (by omega),HU3.out.mono (by omega),HU4.out.step HP.out (by omega) (by simp only[HV1.out];omega),HB.out⟩,by simp[intOf];omega⟩
        · obtain rfl:k=n2:=by omega
          obtain⟨n2,hnn⟩:∃n,n=k:=⟨_,rfl⟩;subst hnn;obtain⟨z0,z1,z2,z3,z4⟩:=HZ.out wr HB.out
          go_wp2_with fail
          go_loopw [3,7] (fun s i wr=>∃(z:Int) (k:Nat),s= .int .i64 z∧k≤n4∧i= .int .i64 (k:Nat)∧0≤z∧z≤140737488355328200+(k:Int)*140737488355328∧Ub List.length x.recs n0 z∧Ub (fun f=>List.length (Fn.args f)) x.funcs n1 z∧Ub (fun f=>List.length (Fn.locs f)) x.funcs n1 z∧Ub (fun f=>List.length (Fn.code f)) x.funcs n1 z∧Ub (fun f=>List.length (Imp.args f)) x.imps n2 z∧Ub List.length x.texts k z∧Below W.heap.size W wr) (fun _ i _=>n4-(intOf i).toNat)
          case atStart=>exact⟨_,0,rfl,qAQ _,rfl,by omega,by omega,HU0.out,HU1.out,HU2.out,HU3.out,HU4.out,Ub.zero _ _ _,HB.out⟩
          case round=>
           obtain⟨z,k,rfl,hk,rfl,hz0,hz1,o0,o1,o2,o3,o4,g0,hbel⟩:=hrel;clear HB;clear HU0 HU1 HU2 HU3 HU4;have HU0:=qAF o0;have HU1:=qAF o1;have HU2:=qAF o2;have HU3:=qAF o3;have HU4:=qAF o4;have HU5:=qAF g0;clear o0 o1 o2 o3 o4 g0;refine jc ?_;intro HB hs;clear hbel
           by_cases hlt:k<n4
           · obtain⟨p,hp⟩:∃p,x.texts[k]? =some p:=⟨x.texts[k]'(by rw[HL4.out];exact hlt),List.getElem?_eq_getElem _⟩
             have HP:=qAF hp;have hm:=qAK hp;obtain⟨a,cs,ea,hab,hc,hR⟩:=HA4.out.at hp;clear hp;subst ea;have hb9:=Z4.out p hm;obtain⟨st,rfl,hst⟩:=hR;have ca0:=(HB.out.cell (p:=a.add k) qA).trans (qAz (K:=strL.k) rfl (hc 0 _ rfl));obtain⟨v1,hv1⟩:∃v,p.length=v:=⟨_,rfl⟩;have hsz:st.size=v1:=by rw[←hv1,hst,qBo]
             rw[hv1] at hb9;clear hst;have HV1:=qAF hv1;clear hc hm hv1;obtain⟨z0,z1,z2,z3,z4⟩:=HZ.out wr HB.out;have k0':0≤(k:Int):=by omega
             have k1':(k:Int)<(n4:Int):=by omega
             go_wp2_with fail
             exact⟨⟨z+(v1:Int),k+1,rfl,by omega,by simp,by omega,by omega,HU0.out.mono (by omega),HU1.out.mono (by omega),HU2.out.mono (by omega),HU3.out.mono (by omega),HU4.out.mono (by omega),HU5.out.step HP.out (by omega) (by simp only[HV1.out];omega),HB.out⟩,by simp[intOf];omega⟩
           · obtain rfl:k=n4:=by omega
             obtain⟨n4,hnn⟩:∃n,n=k:=⟨_,rfl⟩;subst hnn;obtain⟨z0,z1,z2,z3,z4⟩:=HZ.out wr HB.out
             go_wp2_with fail
             go_ret;refine⟨_,rfl,HFin.out _ HB.out,fun hb=> ?_⟩;have hz3:z<3000:=by simpa using hb
             refine⟨fun t ht=> ?_,fun f hf=>⟨?_,?_,?_⟩,fun i hi=> ?_,fun s hs=> ?_⟩
             · have:=HU0.out.all HL0.out t ht;omega
             · have:=HU1.out.all HL1.out f hf;omega
             · have:=HU2.out.all HL1.out f hf;omega
             · have:=HU3.out.all HL1.out f hf;omega
             · have:=HU4.out.all HL2.out i hi;omega
             · have:=HU5.out.all HL4.out s hs;omega
def namedB (m:Mod) (f:Fn) (i:Ins):Bool:=
 if i.1=0 then decide (i.2.1<(m.ints.length:Int))
 else if i.1=1 then decide (i.2.1<(m.texts.length:Int))
 else if i.1=3∨i.1=4 then decide (i.2.1<(f.args.length:Int)+(f.locs.length:Int))
 else if i.1=23∨i.1=24 then decide (i.2.1<(f.code.length:Int))
 else if i.1=25 then decide (i.2.1<(m.funcs.length:Int))
 else if i.1=27 then decide (i.2.1<(m.imps.length:Int))
 else if i.1=28 then decide (i.2.1<(m.recs.length:Int))
 else if i.1=29∨i.1=30 then (match m.recs[i.2.1.toNat]? with|some r=>decide (i.2.2<(r.length:Int))|none=>false)
 else true
def hanB (t:Typ):Bool:=decide (t.1=5)
def hostB (t:Typ):Bool:=decide (t.1=1∨t.1=5)
def badFn (m:Mod) (f:Fn):Bool:=f.locs.any hanB || f.code.any fun i=> !namedB m f i
def badImp (i:Imp):Bool:=i.args.any (fun t=> !hostB t) || !hostB i.ret
def badM (m:Mod):Bool:=m.funcs.any (badFn m) || m.imps.any badImp
def checkN (m:Mod):Int:=if fitB m=false then 2 else if badM m=true then 1 else 0
def mainB (m:Mod):Bool:=decide (checkN m=0) && (match m.funcs with|f::_=>decide (f.args.length=0) && decide (f.ret.1=1)|[]=>false)
theorem qCG (h:fitB m=false):checkN m=2:=by simp[checkN,h]
theorem qGJ (h:fitB m=true) (hb:badM m=true):checkN m=1:=by simp[checkN,h,hb]
theorem qHE (h:checkN m≠0):mainB m=false:=by simp[mainB,h]
theorem qHD {fs:List Fn} (h:checkN m=0) (hf:m.funcs=f::fs):mainB m=(decide (f.args.length=0) && decide (f.ret.1=1)):=by simp[mainB,h,hf]
theorem qAT (h:checkN m=0):fitB m=true:=by
 cases hf:fitB m
 · rw[qCG hf] at h;cases h
 · rfl
theorem qHe (hf:f∈m.funcs) (h:badFn m f=true):badM m=true:=by
 rw[badM,Bool.or_eq_true];exact .inl (List.any_eq_true.2 ⟨f,hf,h⟩)
theorem qIt {t:Ins} (ht:t∈f.code) (h:namedB m f t=false):badFn m f=true:=by
 rw[badFn,Bool.or_eq_true];exact .inr (List.any_eq_true.2 ⟨t,ht,by rw[h];rfl⟩)
theorem qIv {g:α→Bool} (h:(xs.take k).any g=false) (hx:xs[k]? =some x) (hg:g x=false):(xs.take (k+1)).any g=false:=by
 obtain⟨hk,rfl⟩:=qAH.1 hx;rw[qAP hk,List.any_append,h];simp[hg]
theorem qIw {g:α→Bool} (hx:x∈xs) (hg:g x=true):xs.any g=true:=List.any_eq_true.2 ⟨x,hx,hg⟩
theorem qIx {g:α→Bool} (h:(xs.take n).any g=false) (hl:xs.length=n):xs.any g=false:=by
 rwa [qAM (by omega)] at h
theorem dge (a b:Int):decide (b≤a)= !decide (a<b):=by rw[Bool.eq_iff_iff];simp
def subT (a b:Typ):Bool:=subB a.1 a.2 b.1 b.2
def belowT:List Typ→List Typ→Bool
 |[],[]=>true
 |a::xs,b::ys=>subT a b && belowT xs ys
 |_,_=>false
def locB (f:Fn) (n:Int):Typ:=if n<0 then (8,0) else ((f.args++f.locs)[n.toNat]?).getD (8,0)
def fldB (m:Mod) (a b:Int):Typ:=(((m.recs[a.toNat]?).getD [])[b.toNat]?).getD (0,0)
def ruleB (m:Mod) (f:Fn) (i:Ins) (s:List Typ):Option (List Typ×List Typ):=
 if i.1=0 then some ([],[(1,0)])
 else if i.1=1 then some ([],[(2,0)])
 else if i.1=2 then some ([],[(6,0)])
 else if i.1=3 then some ([],[locB f i.2.1])
 else if i.1=4 then some ([locB f i.2.1],[])
 else if i.1=5 then some ([(8,0)],[])
 else if i.1=6 then (match s.reverse with|x::_=>some ([x],[x,x])|_=>none)
 else if i.1=7 then (match s.reverse with|x::y::_=>some ([y,x],[x,y])|_=>none)
 else if i.1=22 then some ([(1,0),(1,0)],[(1,0),(1,0)])
 else if i.1=23 then some ([],[])
 else if i.1=24 then some ([(1,0)],[])
 else if i.1=25 then (match m.funcs[i.2.1.toNat]? with|some g=>some (g.args,[g.ret])|none=>none)
 else if i.1=26 then some ([f.ret],[])
 else if i.1=27 then (match m.imps[i.2.1.toNat]? with|some g=>some (g.args,[g.ret])|none=>none)
 else if i.1=28 then (match m.recs[i.2.1.toNat]? with|some r=>some (r,[(4,i.2.1)])|none=>none)
 else if i.1=29 then some ([(4,i.2.1)],[fldB m i.2.1 i.2.2])
 else if i.1=30 then some ([(4,i.2.1),fldB m i.2.1 i.2.2],[])
 else if i.1=31 then some ([(1,0)],[(3,0)])
 else if i.1=32 then some ([(3,0),(1,0)],[(1,0)])
 else if i.1=33 then some ([(3,0),(1,0),(1,0)],[])
 else if i.1=34 then some ([(3,0)],[(1,0)])
 else if i.1=35 then some ([(1,0)],[(2,0)])
 else if i.1=36 then some ([(2,0),(1,0)],[(1,0)])
 else if i.1=37 then some ([(2,0),(1,0),(1,0)],[])
 else if i.1=38 then some ([(2,0)],[(1,0)])
 else if i.1=39 then some ([(7,0)],[(1,0)])
 else if i.1=40 then some ([(7,0),(7,0)],[(1,0)])
 else if i.1=41 then (match s.reverse with|x::_=>if x.1=5 then some ([x],[]) else none|_=>none)
 else some ([(1,0),(1,0)],[(1,0)])
def movB (s ins outs:List Typ):Option (List Typ):=
 if ins.length≤s.length∧s.length-ins.length+outs.length≤8∧belowT (s.drop (s.length-ins.length)) ins=true then some (s.take (s.length-ins.length)++outs) else none
def nextB (f:Fn) (i:Ins) (pc:Nat):Option (List Int):=
 if i.1=26 then some [] else if i.1=23 then some [i.2.1] else if f.code.length≤pc+1 then none else if i.1=24 then some [(pc:Int)+1,i.2.1] else some [(pc:Int)+1]
def insB8 (m:Mod) (f:Fn) (i:Ins) (pc:Nat) (s:List Typ):Int×List Typ×List Int:=
 match ruleB m f i s with
 |none=>(4,[],[])
 |some (ins,outs)=>match movB s ins outs with
  |none=>(4,[],[])
  |some t=>match nextB f i pc with
   |none=>(1,[],[])
   |some l=>(0,t,l)
def flowB (m:Mod) (f pc:Int) (s:List Typ):Int×List Typ×List Int:=
 if checkN m≠0∨f<0∨pc<0 then (1,[],[])
 else match m.funcs[f.toNat]? with
  |none=>(1,[],[])
  |some fn=>match fn.code[pc.toNat]? with
   |none=>(1,[],[])
   |some i=>insB8 m fn i pc.toNat s
theorem qBG (a:Typ):subT a a=true:=by simp[subT,subB]
theorem qFc {a b c:Typ} (h1:subT a b=true) (h2:subT b c=true):subT a c=true:=by
 obtain⟨a,a'⟩:=a;obtain⟨b,b'⟩:=b;obtain⟨c,c'⟩:=c;simp only[subT,subB,refB,Bool.or_eq_true,Bool.and_eq_true,beq_iff_eq] at h1 h2⊢
 omega
theorem qAu (h:belowT a b=true):a.length=b.length:=by
 induction a generalizing b with
 |nil=>cases b<;>simp[belowT] at h⊢
 |cons x a ih=>
  cases b with
  |nil=>simp[belowT] at h
  |cons y b=>simp only[belowT,Bool.and_eq_true] at h;simp[ih h.2]
theorem qCs (a:List Typ):belowT a a=true:=by
 induction a with
 |nil=>rfl
 |cons x a ih=>simp[belowT,qBG,ih]
theorem qBg {c:List Typ} (h1:belowT a b=true) (h2:belowT b c=true):belowT a c=true:=by
 induction a generalizing b c with
 |nil=>cases b<;>cases c<;>simp[belowT] at h1 h2⊢
 |cons x a ih=>
  cases b with
  |nil=>simp[belowT] at h1
  |cons y b=>
   cases c with
   |nil=>simp[belowT] at h2
   |cons z c=>
    simp only[belowT,Bool.and_eq_true] at h1 h2⊢;exact⟨qFc h1.1 h2.1,ih h1.2 h2.2⟩
theorem qDj {c d:List Typ} (h1:belowT a b=true) (h2:belowT c d=true):belowT (a++c) (b++d)=true:=by
 induction a generalizing b with
 |nil=>cases b<;>simp[belowT] at h1 ⊢;exact h2
 |cons x a ih=>
  cases b with
  |nil=>simp[belowT] at h1
  |cons y b=>
   simp only[belowT,Bool.and_eq_true,List.cons_append] at h1⊢;exact⟨h1.1,ih h1.2⟩
theorem qCr (h:belowT a b=true) (n:Nat):belowT (a.take n) (b.take n)=true:=by
 induction a generalizing b n with
 |nil=>cases b<;>simp[belowT] at h⊢
 |cons x a ih=>
  cases b with
  |nil=>simp[belowT] at h
  |cons y b=>
   simp only[belowT,Bool.and_eq_true] at h
   cases n with
   |zero=>rfl
   |succ n=>simp only[List.take_succ_cons,belowT,Bool.and_eq_true];exact⟨h.1,ih h.2 n⟩
theorem qCt (h:belowT a b=true) (n:Nat):belowT (a.drop n) (b.drop n)=true:=by
 induction a generalizing b n with
 |nil=>cases b<;>simp[belowT] at h⊢
 |cons x a ih=>
  cases b with
  |nil=>simp[belowT] at h
  |cons y b=>
   cases n with
   |zero=>exact h
   |succ n=>
    simp only[belowT,Bool.and_eq_true] at h;simpa using ih h.2 n
theorem qBu {x:Typ} (h:belowT (a++[x]) (b++[y])=true):belowT a b=true∧subT x y=true:=by
 have hl:=qAu h;simp at hl;refine⟨?_,?_⟩
 · have:=qCr h a.length
   rwa [List.take_append_of_le_length (qAI _),List.take_length,hl,List.take_append_of_le_length (qAI _),List.take_length] at this
 · have:=qCt h a.length
   rw[List.drop_append_of_le_length (qAI _),List.drop_length,hl,List.drop_append_of_le_length (qAI _),List.drop_length] at this;simpa[belowT] using this
theorem qFl {ins outs:List Typ} (h:belowT a b=true) (hr:ruleB m f i b=some (ins,outs)):
 ∃ins' outs',ruleB m f i a=some (ins',outs')∧ins'.length=ins.length∧belowT outs' outs=true∧(belowT (b.drop (b.length-ins.length)) ins=true→belowT (a.drop (a.length-ins'.length)) ins'=true):=by
 have hlen:=qAu h;have same:ruleB m f i a=ruleB m f i b→∃ins' outs',ruleB m f i a=some (ins',outs')∧ins'.length=ins.length∧belowT outs' outs=true∧(belowT (b.drop (b.length-ins.length)) ins=true→belowT (a.drop (a.length-ins'.length)) ins'=true):=fun e=>
  ⟨ins,outs,by rw[e,hr],rfl,qCs _,fun hb=>qBg (by rw[hlen];exact qCt h _) hb⟩
 have tops:∀{y:Typ} {r:List Typ},b.reverse=y::r→∃x q,a.reverse=x::q∧subT x y=true∧belowT q.reverse r.reverse=true:=fun {y r} hb=>by
  cases ha:a.reverse with
  |nil=>
   have e1:=congrArg List.length ha;have e2:=congrArg List.length hb;rw[List.length_reverse] at e1 e2;simp only[List.length_nil,List.length_cons] at e1 e2
   omega
  |cons x q=>
   have ea:a=q.reverse++[x]:=by rw[←List.reverse_reverse a,ha];simp
   have eb:b=r.reverse++[y]:=by rw[←List.reverse_reverse b,hb];simp
   rw[ea,eb] at h;exact⟨x,q,rfl,(qBu h).2,(qBu h).1⟩
 have end1:∀{x:Typ} {q:List Typ},a.reverse=x::q→a.drop (a.length-1)=[x]:=fun {x q} ha=>by
  have ea:a=q.reverse++[x]:=by rw[←List.reverse_reverse a,ha];simp
  rw[ea];simp
 have end2:∀{x y:Typ} {q:List Typ},a.reverse=x::y::q→a.drop (a.length-2)=[y,x]:=fun {x y q} ha=>by
  have ea:a=q.reverse++[y,x]:=by rw[←List.reverse_reverse a,ha];simp
  rw[ea];simp
 by_cases h6:i.1=6
 · cases hb:b.reverse with
   |nil=>simp[ruleB,h6,hb] at hr
   |cons y r=>
    obtain⟨x,q,ha,hs,-⟩:=tops hb;simp[ruleB,h6,hb] at hr;obtain⟨rfl,rfl⟩:=hr;exact⟨[x],[x,x],by simp[ruleB,h6,ha],rfl,by simp[belowT,hs],fun _=>by rw[List.length_singleton,end1 ha];simp[belowT,qBG]⟩
 by_cases h7:i.1=7
 · cases hb:b.reverse with
   |nil=>simp[ruleB,h7,hb] at hr
   |cons y r=>
    cases r with
    |nil=>simp[ruleB,h7,hb] at hr
    |cons y2 r=>
     obtain⟨x,q,ha,hs,hq⟩:=tops hb
     cases q with
     |nil=>
      have:=qAu hq;simp at this
     |cons x2 q=>
      simp only[List.reverse_cons] at hq;have hs2:=(qBu hq).2;simp[ruleB,h7,hb] at hr;obtain⟨rfl,rfl⟩:=hr;exact⟨[x2,x],[x,x2],by simp[ruleB,h7,ha],rfl,by simp[belowT,hs,hs2],fun _=>by rw[show[x2,x].length=2 from rfl,end2 ha];simp[belowT,qBG]⟩
 by_cases h41:i.1=41
 · cases hb:b.reverse with
   |nil=>simp[ruleB,h41,hb] at hr
   |cons y r=>
    obtain⟨x,q,ha,hs,-⟩:=tops hb
    by_cases hy:y.1=5
    · have hx:x.1=5:=by
       simp only[subT,subB,refB,Bool.or_eq_true,Bool.and_eq_true,beq_iff_eq] at hs
       omega
      simp[ruleB,h41,hb,hy] at hr;obtain⟨rfl,rfl⟩:=hr;exact⟨[x],[],by simp[ruleB,h41,ha,hx],rfl,rfl,fun _=>by rw[List.length_singleton,end1 ha];simp[belowT,qBG]⟩
    · simp[ruleB,h41,hb,hy] at hr
 · exact same (by simp only[ruleB,h6,h7,h41,if_false])
theorem qHJ {pc:Nat} {t:List Typ} (h:belowT a b=true) (hf:insB8 m f i pc b=(0,t,l)):∃s,insB8 m f i pc a=(0,s,l)∧belowT s t=true:=by
 have hlen:=qAu h
 cases hr:ruleB m f i b with
 |none=>simp[insB8,hr] at hf
 |some p=>
  obtain⟨ins,outs⟩:=p;obtain⟨ins',outs',hr',hl,ho,hb⟩:=qFl h hr;have hol:=qAu ho
  cases hm:movB b ins outs with
  |none=>simp[insB8,hr,hm] at hf
  |some u=>
   cases hn:nextB f i pc with
   |none=>simp[insB8,hr,hm,hn] at hf
   |some q=>
    simp[insB8,hr,hm,hn] at hf;obtain⟨rfl,rfl⟩:=hf;unfold movB at hm;split at hm
    · rename_i hc
      obtain⟨c1,c2,c3⟩:=hc;injection hm with hm;subst hm;refine⟨a.take (a.length-ins'.length)++outs',?_,qDj (by rw[hlen,hl];exact qCr h _) ho⟩;simp only[insB8,hr',hn,movB];rw[if_pos ⟨by omega,by omega,hb c3⟩]
    · cases hm
theorem qDg {xs:List Typ} {x:Typ} (h:belowT (xs.take k) (ys.take k)=true) (hx:xs[k]? =some x) (hy:ys[k]? =some y) (hs:subT x y=true):belowT (xs.take (k+1)) (ys.take (k+1))=true:=by
 obtain⟨hk,rfl⟩:=qAH.1 hx;obtain⟨hk2,rfl⟩:=qAH.1 hy;rw[qAP hk,qAP hk2];exact qDj h (by simp[belowT,hs])
theorem qED {xs:List Typ} {x:Typ} (hx:xs[k]? =some x) (hy:ys[k]? =some y) (hs:subT x y=false):belowT xs ys=false:=by
 induction xs generalizing ys k with
 |nil=>simp at hx
 |cons a xs ih=>
  cases ys with
  |nil=>rfl
  |cons b ys=>
   cases k with
   |zero=>simp at hx hy;subst hx hy;simp[belowT,hs]
   |succ k=>simp only[belowT,ih (k:=k) (by simpa using hx) (by simpa using hy),Bool.and_false]
theorem qDu {xs:List Typ} (h:xs.length≠ys.length):belowT xs ys=false:=by
 cases hb:belowT xs ys
 · rfl
 · exact absurd (qAu hb) h
def cntB (m:Mod) (f:Fn) (i:Ins) (s:List Typ):Nat×Nat:=match ruleB m f i s with
 |none=>(0,0)
 |some p=>(p.1.length,p.2.length)
theorem qEl {s ins outs:List Typ} (hr:ruleB m f i s=some (ins,outs)) (hk:k≤s.length):
 ruleB m f i (s.drop (s.length-k))=some (ins,outs)∨(ruleB m f i (s.drop (s.length-k))=none∧k<ins.length):=by
 have e:(s.drop (s.length-k)).reverse=s.reverse.take k:=by rw[List.reverse_drop,show s.length-(s.length-k)=k by omega]
 by_cases h6:i.1=6
 · cases hb:s.reverse with
   |nil=>simp[ruleB,h6,hb] at hr
   |cons y r=>
    simp[ruleB,h6,hb] at hr;obtain⟨rfl,rfl⟩:=hr;rw[hb] at e
    cases k with
    |zero=>exact .inr ⟨by simp only[ruleB,h6,e];simp,by simp⟩
    |succ k=>exact .inl (by simp only[ruleB,h6,e];simp)
 by_cases h7:i.1=7
 · cases hb:s.reverse with
   |nil=>simp[ruleB,h7,hb] at hr
   |cons y r=>
    cases r with
    |nil=>simp[ruleB,h7,hb] at hr
    |cons z r=>
     simp[ruleB,h7,hb] at hr;obtain⟨rfl,rfl⟩:=hr;rw[hb] at e
     match k with
     |0=>exact .inr ⟨by simp only[ruleB,h7,e];simp,by simp⟩
     |1=>exact .inr ⟨by simp only[ruleB,h7,e];simp,by simp⟩
     |k+2=>exact .inl (by simp only[ruleB,h7,e];simp)
 by_cases h41:i.1=41
 · cases hb:s.reverse with
   |nil=>simp[ruleB,h41,hb] at hr
   |cons y r=>
    by_cases h5:y.1=5
    · simp[ruleB,h41,hb,h5] at hr
      obtain⟨rfl,rfl⟩:=hr;rw[hb] at e
      cases k with
      |zero=>exact .inr ⟨by simp only[ruleB,h41,e];simp,by simp⟩
      |succ k=>exact .inl (by simp only[ruleB,h41,e];simp[h5])
    · simp[ruleB,h41,hb,h5] at hr
 · exact .inl (by rw[←hr];simp only[ruleB,h6,h7,h41,if_false])
theorem qCF {pc:Nat} {s t:List Typ} (h:insB8 m f i pc s=(0,t,l)):
 (cntB m f i s).1≤s.length∧t.length=s.length-(cntB m f i s).1+(cntB m f i s).2∧t.length≤8∧
   (∀k,k<(cntB m f i s).1→(insB8 m f i pc (s.drop (s.length-k))).1≠0)∧
   ∃u,insB8 m f i pc (s.drop (s.length-(cntB m f i s).1))=(0,u,l)∧u.length=(cntB m f i s).2:=by
 cases hr:ruleB m f i s with
 |none=>simp[insB8,hr] at h
 |some p=>
  obtain⟨ins,outs⟩:=p
  cases hm:movB s ins outs with
  |none=>simp[insB8,hr,hm] at h
  |some t'=>
   cases hn:nextB f i pc with
   |none=>simp[insB8,hr,hm,hn] at h
   |some l'=>
    simp[insB8,hr,hm,hn] at h;obtain⟨rfl,rfl⟩:=h;unfold movB at hm;split at hm
    · rename_i hc
      obtain⟨c1,c2,c3⟩:=hc;injection hm with hm;subst hm;simp only[cntB,hr];refine⟨c1,by simp<;>omega,by simp<;>omega,fun k hk=> ?_,?_⟩
      · rcases qEl hr (k:=k) (by omega) with h|⟨h,-⟩
        · have:movB (s.drop (s.length-k)) ins outs=none:=by
           unfold movB;rw[if_neg];rintro⟨h1,-⟩;simp at h1
           omega
          simp[insB8,h,this]
        · simp[insB8,h]
      · rcases qEl hr (k:=ins.length) c1 with h|⟨-,h⟩
        · refine⟨outs,?_,rfl⟩
          have hl:(s.drop (s.length-ins.length)).length=ins.length:=by simp;omega
          have:movB (s.drop (s.length-ins.length)) ins outs=some outs:=by
           unfold movB;rw[hl,if_pos ⟨qAI _,by omega,by simpa using c3⟩];simp
          simp[insB8,h,this,hn]
        · omega
    · cases hm
def T2:List Typ→List Value
 |[]=>[]
 |t::ts=> .int .i64 t.1:: .int .i64 t.2::T2 ts
theorem T2_app (ts us:List Typ):T2 (ts++us)=T2 ts++T2 us:=by
 induction ts with
 |nil=>rfl
 |cons t ts ih=>simp[T2,ih]
theorem qCi (ts:List Typ):(T2 ts).length=ts.length*2:=by
 induction ts with
 |nil=>rfl
 |cons t ts ih=>simp[T2,ih];omega
theorem qCL {t:Typ} (h:ts[j]? =some t):(T2 ts)[j*2]? =some (.int .i64 t.1):=by
 induction ts generalizing j with
 |nil=>simp at h
 |cons u ts ih=>
  cases j with
  |zero=>simp at h;subst h;simp[T2]
  |succ j=>rw[show(j+1)*2=j*2+1+1 by omega];simp[T2];exact ih qw
theorem qCK {t:Typ} (h:ts[j]? =some t):(T2 ts)[j*2+1]? =some (.int .i64 t.2):=by
 induction ts generalizing j with
 |nil=>simp at h
 |cons u ts ih=>
  cases j with
  |zero=>simp at h;subst h;simp[T2]
  |succ j=>rw[show(j+1)*2+1=j*2+1+1+1 by omega];simp[T2];exact ih qw
theorem T2_one (ts:List Typ):∀u∈T2 ts,u.oneCell'=true:=by
 induction ts with
 |nil=>simp[T2]
 |cons t ts ih=>
  intro u hu;simp only[T2,List.mem_cons] at hu;rcases hu with rfl|rfl|hu
  · rfl
  · rfl
  · exact ih u hu
def A64 (ts:List Typ):Prop:=∀t∈ts,I64 t.1∧I64 t.2
theorem A64.app {us:List Typ} (h:A64 ts) (h':A64 us):A64 (ts++us):=fun t ht=>by
 rcases List.mem_append.1 ht with h1|h1
 · exact h t h1
 · exact h' t h1
theorem A64.take (h:A64 ts) (k:Nat):A64 (ts.take k):=fun t ht=>h t (List.mem_of_mem_take ht)
theorem A64.drop (h:A64 ts) (k:Nat):A64 (ts.drop k):=fun t ht=>h t (List.mem_of_mem_drop ht)
theorem A64.nil:A64 []:=fun t ht=>by simp at ht
theorem A64.one {t:Typ} (h:I64 t.1) (h':I64 t.2):A64 [t]:=fun u hu=>by simp at hu;subst hu;exact⟨h,h'⟩
theorem Sq.a64 (h:Sq typL S w A ts):A64 ts:=fun t ht=>by
 obtain⟨j,hj⟩:=qAq.1 ht;obtain⟨a,cs,-,-,-,hr⟩:=h.at hj;exact hr.2
theorem Sq.take (h:Sq L S w A xs) (k:Nat):Sq L S w A (xs.take k):=fun hn=>by
 have hl:(xs.take k).length≤xs.length:=by simp;omega
 obtain⟨a,e,hs,hc⟩:=h (by omega);refine⟨a,e,hs,fun j x hx=>hc j x ?_⟩;have hj:j<k:=by
  have:=(qAH.1 hx).1;simp at this
  omega
 rwa [List.getElem?_take_of_lt hj] at hx
theorem Sq.drop (h:Sq L S w A xs) (k:Nat):Sq L S w (A.map (·.add (k*L.k))) (xs.drop k):=fun hn=>by
 have hl:(xs.drop k).length=xs.length-k:=by simp
 obtain⟨a,e,hs,hc⟩:=h (by omega);refine⟨a.add (k*L.k),by rw[e];rfl,by rw[qAU];exact hs,fun j x hx=> ?_⟩;rw[List.getElem?_drop] at hx;obtain⟨cs,h1,h2⟩:=hc (k+j) x hx;refine⟨cs,fun i u hu=> ?_,h2⟩;rw[qBh,←h1 i u hu,Nat.add_mul,Nat.add_assoc]
theorem qB6 {base:Nat} (h:w.ownsRow base 50 2 v n (T2 ts)) (ha:A64 ts):
 ∃A c,v= .slice A n c∧n=ts.length∧n≤c∧c≤maxLen∧Sq typL (fun b=>base≤b∧b<w.heap.size) w A ts:=by
 have hn:n=ts.length:=by have:=h.1;rw[qCi] at this;omega
 rcases h.2 with⟨rfl,h0⟩|⟨g,cap,cur,rfl,hb,hg,hnc,hcm,_,_⟩
 · refine⟨none,0,by rw[h0],hn,by omega,by simp[maxLen],fun hpos=>absurd hpos (by omega)⟩
 · refine⟨some ⟨g,0,none⟩,cap,rfl,hn,hnc,hcm,fun _=>⟨⟨g,0,none⟩,rfl,⟨hb,(Array.getElem?_eq_some_iff.1 hg).1⟩,fun j t hj=>⟨_,fun i u hu=> ?_,rfl,ha t (qAK hj)⟩⟩⟩
   match i,hu with
   |0,hu=>simp at hu;subst hu;exact h.cells rfl (j*2) _ (qCL hj)
   |1,hu=>simp at hu;subst hu;exact h.cells rfl (j*2+1) _ (qCK hj)
   |i+2,hu=>simp at hu
theorem qAy (w:World):(w.alloc (.cells #[] 50)).ownsRow w.heap.size 50 2 (.slice (some ⟨w.heap.size,0,none⟩) 0 0) 0 (T2 []):=
 World.ownsRow_made w #[] 0 (qAI _) (by simp[maxLen]) (by simp)
theorem qHl {a:Addr} (h:Sq typL S w (some a) ts):∀j u,(T2 ts)[j]? =some u→w.cell? (a.add j)=some u:=fun j u hu=>by
 have hj:=(qAH.1 hu).1;rw[qCi] at hj;obtain⟨a',e,-,hc⟩:=h (by omega);injection e with e;subst e;obtain⟨t,ht⟩:∃t,ts[j / 2]? =some t:=⟨ts[j / 2]'(by omega),List.getElem?_eq_getElem _⟩;obtain⟨cs,h1,rfl,-⟩:=hc _ t ht;rcases Nat.mod_two_eq_zero_or_one j with e|e
 · have ej:j=j / 2*2:=by omega
   have k0:=h1 0 _ rfl;rw[ej,qCL ht] at hu;injection hu with hu;subst hu;rw[show j / 2*typL.k+0=j by show j / 2*2+0=j;omega] at k0;exact k0
 · have ej:j=j / 2*2+1:=by omega
   have k0:=h1 1 _ rfl;rw[ej,qCK ht] at hu;injection hu with hu;subst hu;rw[show j / 2*typL.k+1=j by show j / 2*2+1=j;omega] at k0;exact k0
theorem qEh:(Try.prog.info? 50).map (fun i=>(i.zero,i.size,i.bytes))=some (some (.agg #[.int .i64 0,.int .i64 0]),2,16):=by kernel_rfl
theorem qBq (w:World) (base ty:Nat) (v:Value) (n:Nat) (xs:List Typ) (hown:w.ownsRow base 50 2 v n (T2 xs)) (A:Option Addr) (m c:Nat) (ys:List Typ) (hm:ys.length=m)
 (S:Nat→Prop) (hy:Sq typL S w A ys) (hbig:n+m≤1000000000) (hbase:base≤w.heap.size):
 ∃v' w',(Builtin.append_ #[42,42] ty #[v,.slice A m c]).run Try.prog w= .ok v' w'∧w'.ownsRow base 50 2 v' (n+m) (T2 (xs++ys))∧w.grownBy w' v.ownBlock∧
  (v'.ownBlock=v.ownBlock∨v'.ownBlock=some w.heap.size):=by
 obtain⟨i0,hi0,hz0,hz1,hz2⟩:=info_parts qEh;rw[T2_app];rcases A with _|a
 · have h0:m=0:=by
    rcases Nat.eq_zero_or_pos m with h|h
    · exact h
    · obtain⟨a,h,_⟩:=hy (by omega)
      cases h
   subst h0;obtain rfl:ys=[]:=qAZ hm;refine⟨v,w,?_,by simpa[T2] using hown,⟨rfl,rfl,rfl,qAI _,fun _ _ _=>rfl⟩,.inl rfl⟩;have ht:=run_underlying (P:=Try.prog) (w:=w) Try.underlying42;exact qx
 · obtain⟨v',w',hrun,h2,h3,_,h5⟩:=run_append_own_at (P:=Try.prog) w base 42 ty 50 i0 (.agg #[.int .i64 0,.int .i64 0]) 2 16 Try.underlying42 hi0 hz0 hz1 hz2 rfl (by omega) v n (T2 xs) hown a m c (T2 ys) (by rw[qCi];omega) (qHl hy) (T2_one ys)
    zD (by omega) hbase
   exact⟨v',w',hrun,h2,h3,h5⟩
theorem qAj (w:World) {a:Act} (hgd:o.guard=none) (s x:Operand)
 (ho:o.op= .call {callee:= .builtin .append,args:= #[s,x],argTypes:= #[42,42]})
 (base:Nat) (v:Value) (n:Nat) (xs:List Typ) (hs:a.eval s=v) (hown:w.ownsRow base 50 2 v n (T2 xs)) (A:Option Addr) (m c:Nat) (ys:List Typ) (hx:a.eval x= .slice A m c) (hm:ys.length=m)
 (S:Nat→Prop) (hy:Sq typL S w A ys) (hbig:n+m≤1000000000) (hbase:base≤w.heap.size)
 (h:∀v' w',w'.ownsRow base 50 2 v' (n+m) (T2 (xs++ys))→w.grownBy w' v.ownBlock→(v'.ownBlock=v.ownBlock∨v'.ownBlock=some w.heap.size)→wpList Try.prog ops Q rest (a.put o.dst v') w'):
 wpList Try.prog ops Q (o::rest) a w:=by
 refine wpList_plain hgd fun _ hK=> ?_;obtain⟨v',w',hrun,h2,h3,h4⟩:=qBq w base o.type v n xs hown A m c ys hm S hy hbig hbase;unfold Oper.wp execOp;simp only[ho,resolve,invoke,builtin,Sem.run_bind,Sem.run_pure,Result.andThen_ok,List.map_toArray,List.map_cons,List.map_nil,hs,hx,hrun];exact hK _ _ (h v' w' h2 h3 h4)
theorem qBi (w:World) {a:Act} {K:Act→World→Prop} {E:Prop} (hgd:o.guard=none) (s x:Operand)
 (ho:o.op= .call {callee:= .builtin .append,args:= #[s,x],argTypes:= #[42,42]})
 (base:Nat) (v:Value) (n:Nat) (xs:List Typ) (hs:a.eval s=v) (hown:w.ownsRow base 50 2 v n (T2 xs)) (A:Option Addr) (m c:Nat) (ys:List Typ) (hx:a.eval x= .slice A m c) (hm:ys.length=m)
 (S:Nat→Prop) (hy:Sq typL S w A ys) (hbig:n+m≤1000000000) (hbase:base≤w.heap.size)
 (h:∀v' w',w'.ownsRow base 50 2 v' (n+m) (T2 (xs++ys))→w.grownBy w' v.ownBlock→(v'.ownBlock=v.ownBlock∨v'.ownBlock=some w.heap.size)→K (a.put o.dst v') w'):
 if Region.wanted o (yielded ops a.tmps)=true then Oper.wp Try.prog o a w K Q else E:=by
 have hw:Region.wanted o (yielded ops a.tmps)=true:=by simp[Region.wanted,hgd]
 rw[if_pos hw];obtain⟨v',w',hrun,h2,h3,h4⟩:=qBq w base o.type v n xs hown A m c ys hm S hy hbig hbase;unfold Oper.wp execOp;simp only[ho,resolve,invoke,builtin,Sem.run_bind,Sem.run_pure,Result.andThen_ok,List.map_toArray,List.map_cons,List.map_nil,hs,hx,hrun];exact h v' w' h2 h3 h4
theorem qDo (w:World) {a:Act} (hgd:o.guard=none) (s x:Operand)
 (ho:o.op= .call {callee:= .builtin .append,args:= #[s,x],argTypes:= #[42,3]})
 (n:Nat) (h0:0<n) (hn:n≤1000000000) (hs:a.eval s= .slice none 0 0) (hx:a.eval x= .int .i64 (n:Nat))
 (h:∀G w',n≤G→G≤maxLen→w'.ownsRow w.heap.size 50 2 (.slice (some ⟨w.heap.size,0,none⟩) 0 G) 0 (T2 [])→Below w.heap.size w w'→wpList Try.prog ops Q rest (a.put o.dst (.slice (some ⟨w.heap.size,0,none⟩) n G)) w'):
 wpList Try.prog ops Q (o::rest) a w:=by
 obtain⟨i0,hi0,hz0,hz1,hz2⟩:=info_parts qEh;refine wpList_plain hgd fun _ hK=> ?_;have hrun:=Lib.run_append_nil_zeros (P:=Try.prog) w 42 3 o.type 50 i0 (.agg #[.int .i64 0,.int .i64 0]) .i64 .i64 Try.underlying42 Try.underlying3 hi0 hz0 n h0 (by omega) (by omega) (by rw[hz2];omega);have hG:=grownCap_ge w n 0 50;have hG2:=grownCap_le_maxLen w n 0 50 (by unfold maxLen;omega);generalize grownCap w n 0 50=G at hrun hG hG2;unfold Oper.wp execOp;simp only[ho,resolve,invoke,builtin,Sem.run_bind,Sem.run_pure,Result.andThen_ok,List.map_toArray,List.map_cons,List.map_nil,hs,hx,hrun];refine hK _ _ (h G _ hG hG2 ?_ ((qAJ _ w).drew.alloc (qAI _) _));refine World.ownsRow_made (base:=w.heap.size) (e:=50) (size:=2) w.drew _ G (qAI _) hG2 ?_;simp[Builtin.zeroCells,Value.cells]
 omega
def Is (l:List Int):List Value:=l.map fun x=>Value.int .i64 x
theorem qHg (l:List Int):(Is l).length=l.length:=by simp[Is]
theorem qI0 {x:Int} (h:l[j]? =some x):(Is l)[j]? =some (.int .i64 x):=by simp[Is,h]
theorem qCx (k:Nat) (w:World) {a:Act} (hgd:o.guard=none) (s x:Operand) (T E:TypeId)
 (ho:o.op= .call {callee:= .builtin .append,args:= #[s,x],argTypes:= #[T,T]})
 (z:Value) (B:Nat) (hT:Try.prog.underlying T=some (.slice E)) (hI:(Try.prog.info? E).map (fun i=>(i.zero,i.size,i.bytes))=some (some z,k,B)) (hz:z.cells.size=k) (hk:0<k) (hB:B≤100)
 (base:Nat) (v:Value) (n:Nat) (cs:List Value) (hs:a.eval s=v) (hO:w.ownsRow base E k v n cs) (ad:Addr) (d:Nat) (hx:a.eval x= .slice (some ad) 1 d) (ys:List Value) (hl:ys.length=k)
 (hc:∀j u,ys[j]? =some u→w.cell? (ad.add j)=some u) (hone:∀u∈ys,u.oneCell'=true) (hbig:n≤1000000) (hbase:base≤w.heap.size)
 (h:∀v' w',w'.ownsRow base E k v' (n+1) (cs++ys)→w.grownBy w' v.ownBlock→(v'.ownBlock=v.ownBlock∨v'.ownBlock=some w.heap.size)→wpList Try.prog ops Q rest (a.put o.dst v') w'):wpList Try.prog ops Q (o::rest) a w:=by
 refine wpList_plain hgd fun _ hK=> ?_;obtain⟨i0,hi0,hz0,hz1,hz2⟩:=info_parts hI;have hBx:(n+1)*B≤140737488355328:=by
  have:=Nat.mul_le_mul (show n+1≤1000001 by omega) hB
  omega
 obtain⟨v',w',hrun,h2,h3,_,h5⟩:=run_append_own_at (P:=Try.prog) w base T o.type E i0 z k B hT hi0 hz0 hz1 hz2 hz hk v n cs hO ad 1 d ys (by rw[hl,Nat.one_mul]) hc hone
  zD hBx hbase
 unfold Oper.wp execOp;simp only[ho,resolve,invoke,builtin,Sem.run_bind,Sem.run_pure,Result.andThen_ok,List.map_toArray,List.map_cons,List.map_nil,hs,hx,hrun];exact hK _ _ (h v' w' h2 h3 h5)
theorem qFz {cs:Array Value} (h:Blk w g ty cs) (hg:S g) (hR:L.R S w cs.toList x):(slL L).R S w [.slice (some ⟨g,0,none⟩) 1 1] [x]:=by
 refine⟨some ⟨g,0,none⟩,1,rfl,qAI _,by simp[maxLen],fun _=>⟨_,rfl,hg,fun j y hy=> ?_⟩⟩;have hj:j=0:=by
  rcases Nat.eq_zero_or_pos j with h|h
  · exact h
  · rw[List.getElem?_eq_none qK] at hy
    cases hy
 subst hj;simp at hy;subst hy;refine⟨_,fun i u hu=> ?_,hR⟩;have e:(⟨g,0,none⟩:Addr).add (0*L.k+i)=⟨g,i,none⟩:=by unfold Addr.add;split<;>simp_all
 rw[e,h.cell i];simpa using hu
theorem qB8 (L:Lay α) (S:Nat→Prop) (w:World):(slL L).R S w [.slice none 0 0] []:=⟨none,0,rfl,qAI _,by simp[maxLen],Sq.nil _ _ _ _⟩
theorem qCR {w':World} {base B:Nat} {xs:List Value} (h:w.ownsRow base ty k v n xs) (hb:Below B w w') (hB:w.heap.size≤B):w'.ownsRow base ty k v n xs:=
 h.kept (w':=w') (row:=none) ⟨hb.os,hb.tape,hb.output,hb.size,fun k hk _=>hb.block k (by omega)⟩ (by cases v.ownBlock<;>simp)
def tA:Array Value:= #[.int .i64 1,.int .i64 0]
def iA:Array Value:= #[.int .i64 26,.int .i64 0,.int .i64 0]
def bm:Nat→Nat→Mod
 |0,k=>⟨List.replicate k [],[fn0],[],[],[]⟩
 |1,k=>⟨[],List.replicate (k+1) fn0,[],[],[]⟩
 |2,k=>⟨[],[fn0],List.replicate k ⟨[],(1,0)⟩,[],[]⟩
 |3,k=>⟨[],[fn0],[],List.range k,[]⟩
 |4,k=>⟨[],[fn0],[],[],List.replicate k [97]⟩
 |5,k=>⟨[],[⟨[],(1,0),List.replicate k (1,0),[(26,0,0)]⟩],[],[],[]⟩
 |_,k=>⟨[],[⟨[],(1,0),[],(26,0,0)::List.replicate k (5,0,0)⟩],[],[],[]⟩
def bt:Nat→Nat
 |0=>8
 |1=>7
 |2=>8
 |3=>16
 |4=>16
 |5=>8
 |_=>63
def Bst (N ty k b0 g ty2:Nat) (mk:Value→Array Value) (w W0 wr:World) (css:List (List Value)) (v:Value):Prop:=
 Below N w wr∧N+4≤wr.heap.size∧wr.ownsRow (N+1) ty k v css.length css.flatten∧(∀b,v.ownBlock=some b→b=b0∨N+4≤b)∧(∀b,b<N+4→b≠b0→b≠g→wr.heap[b]? =W0.heap[b]?)∧Blk wr g ty2 (mk v)
theorem Bst.blk {N b0 ty2:Nat} {mk:Value→Array Value} {W0 wr w1 w2:World} {css:List (List Value)} (h:Bst N ty k b0 g ty2 mk w W0 wr css v) (hb:b0≠g) (hg:g<N+4) (h1:Below wr.heap.size wr w1) (hgr:w1.grownBy w2 v.ownBlock):Blk w2 g ty2 (mk v):=by
 obtain⟨a1,a2,a3,a4,a5,a6⟩:=h;refine((hgr.block g (qAG a6.lt h1.size) fun e=> ?_).trans (h1.block g a6.lt)).trans a6;rcases a4 g e.symm with h|h<;>omega
theorem Bst.step {N b0 ty2 i:Nat} {mk:Value→Array Value} {W0 wr w1 w2:World} {css:List (List Value)} {ys:List Value} {v':Value} (h:Bst N ty k b0 g ty2 mk w W0 wr css v) (hb:b0≠g) (hb0:N≤b0) (hg0:N≤g) (hg:g<N+4) (h1:Below wr.heap.size wr w1)
 (hown:w2.ownsRow (N+1) ty k v' (css.length+1) (css.flatten++ys)) (hgr:w1.grownBy w2 v.ownBlock) (h5:v'.ownBlock=v.ownBlock∨v'.ownBlock=some w1.heap.size) (hset:(mk v).setIfInBounds i v'=mk v'):
 Bst N ty k b0 g ty2 mk w W0 (w2.setCell ⟨g,i,none⟩ v') (css++[ys]) v':=by
 have hblk:=h.blk hb hg h1 hgr;obtain⟨a1,a2,a3,a4,a5,a6⟩:=h;have s1:=h1.size;have s2:=hgr.size;have hv:∀b,v'.ownBlock=some b→b=b0∨N+4≤b:=by
  intro b e;rcases h5 with h|h
  · exact a4 b (h▸e)
  · rw[h] at e
    injection e with e
    omega
 have hrow:∀j,v.ownBlock=some j→N≤j:=fun j e=>by rcases a4 j e with h|h<;>omega
 refine⟨((a1.trans (h1.mono (by omega))).trans (qBA hgr (by omega) hrow)).setCell (p:=⟨g,i,none⟩) hg0 _,by have:=(qAc (qA5 g w2) i v').size;omega,?_,hv,?_,?_⟩
 · have:=hown.kept (row:=some g) (qAc (qA5 g w2) i v') (.inr fun e=>by rcases hv g e with h|h<;>omega)
   simpa using this
 · intro b h2 h3 h4
   rw[qAX _ _ _ _ (by simpa using h4),hgr.block b (by omega) (fun e=>by rcases a4 b e.symm with h|h<;>omega),h1.block b (by omega)];exact a5 b h2 h3 h4
 · rw[←hset]
   exact hblk.set i v'
theorem qAm {v:World} {o:Obj} {b:Nat} (h:Blk v b t c):Blk (v.alloc o) b t c:=(qAp v o b h.lt).trans h
theorem qAe {v:World} {b:Nat} (h:v.heap.size=b):Blk (v.alloc (.cells c t)) b t c:=by rw[←h];exact qBe v t c
theorem qAY {v:World} {B b:Nat} (h:Blk v b t c) (hb:Below B v w) (hB:b<B):Blk w b t c:=(hb.block b hB).trans h
theorem qEC {v:World} {b i:Nat} {u:Value} (h:Blk v b t c) (hne:b≠g):Blk (v.setCell ⟨g,i,none⟩ u) b t c:=(qAX v ⟨g,i,none⟩ u b hne).trans h
theorem qFa {cs:Array Value} {c0 c1:List Value} {y:α} (h:Blk w g ty cs) (hg:S g) (hc:cs.toList=c0++c1) (h0:L.R S w c0 x) (h1:L.R S w c1 y):(slL L).R S w [.slice (some ⟨g,0,none⟩) 2 2] [x,y]:=by
 have l0:=L.len h0;have l1:=L.len h1;have hcell:∀i u,(c0++c1)[i]? =some u→w.cell? ⟨g,i,none⟩=some u:=fun i u hu=>by
  rw[h.cell i,←hu,←hc];simp
 refine j7 ?_;intro e;refine⟨some ⟨g,0,none⟩,2,rfl,qAI _,by simp[maxLen],fun _=>⟨_,rfl,hg,fun j z hz=> ?_⟩⟩
 match j,hz with
 |0,hz=>
  simp at hz;subst hz;refine⟨c0,fun i u hu=> ?_,h0⟩;rw[e,Nat.zero_mul,Nat.zero_add];have hi:=(qAH.1 hu).1;exact hcell i u (by rw[List.getElem?_append_left hi];exact hu)
 |1,hz=>
  simp at hz;subst hz;refine⟨c1,fun i u hu=> ?_,h1⟩;rw[e,Nat.one_mul];exact hcell _ u (by rw[List.getElem?_append_right (by omega)];simpa[l0] using hu)
 |j+2,hz=>simp at hz
end Go.Proofs.Ytelceoecekfamaa
