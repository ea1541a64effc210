/-
Rmo
-/
import Derived.Test.YtelceoecekfamaaGreatQ08
set_option linter.unusedSimpArgs false
set_option linter.unusedVariables false
set_option maxRecDepth 100000
set_option maxHeartbeats 40000000
namespace Go.Proofs.YtelceoecekfamaaGreat
open Go.RowKit
theorem qIr (cs:List Value) (x:Mod) (w:World) (h:modL.R (·<w.heap.size) w cs x) (hz:Small x) (hc:(x.recs.length≤8∧1≤x.funcs.length∧x.funcs.length≤8∧x.imps.length≤8∧x.ints.length≤16∧x.texts.length≤16)):Calls Tryz.prog 14 #[vAgg cs] w (RMod x w):=by
 obtain⟨_,_,_,_,_,rfl,⟨A0,d0,e0,l0,m0,s0⟩,⟨A1,d1,e1,l1,m1,s1⟩,⟨A2,d2,e2,l2,m2,s2⟩,⟨A3,d3,e3,l3,m3,s3⟩,⟨A4,d4,e4,l4,m4,s4⟩⟩:=h;simp only[List.cons.injEq,and_true] at e0 e1 e2 e3 e4;subst e0 e1 e2 e3 e4;unfold maxLen at m0 m1 m2 m3 m4
 show Calls Tryz.prog 14 #[.agg #[.slice A0 x.recs.length d0,.slice A1 x.funcs.length d1,.slice A2 x.imps.length d2,.slice A3 x.ints.length d3,.slice A4 x.texts.length d4]] w _
 refine jG ?_;intro n0 hn0 HL0 HS0 n1 hn1 HL1 HS1 n2 hn2 HL2 HS2 n3 hn3 HL3 HS3 n4 hn4 HL4;have HS4:=qAg s4;rw[hn0,hn1,hn2,hn3,hn4] at hc⊢;rw[hn0] at l0;rw[hn1] at l1;rw[hn2] at l2;rw[hn3] at l3;rw[hn4] at l4;clear hn0 s0 hn1 s1 hn2 s2 hn3 s3 hn4 s4;refine jp ?_;intro HB0;obtain⟨b0,b1,b2,b3,b4,b5⟩:=hc;have HFA:Hid (fitB x=(x.recs.all (recOk n0) && x.funcs.all (fnOk n0) && x.imps.all (impOk n0) && x.texts.all shortB)):=by
  have:=fit_all (x:=x) (by rw[HL0.out];exact b0) (by rw[HL1.out];exact b1) (by rw[HL1.out];exact b2) (by rw[HL2.out];exact b3) (by rw[HL3.out];exact b4) (by rw[HL4.out];exact b5);rw[HL0.out] at this;exact this
 have HZ:=qAg hz;clear hz;have hw0:IntKind.u64.wrap (n0:Int)=(n0:Int):=by rw[IntKind.wrap_u64];omega
 have h640:n0<B64:=by unfold B64;omega
 have hv0:(vb n0).length≤10:=qBK 9 n0 qK;have hw1:IntKind.u64.wrap (n1:Int)=(n1:Int):=by rw[IntKind.wrap_u64];omega
 have h641:n1<B64:=by unfold B64;omega
 have hv1:(vb n1).length≤10:=qBK 9 n1 qK;have hw2:IntKind.u64.wrap (n2:Int)=(n2:Int):=by rw[IntKind.wrap_u64];omega
 have h642:n2<B64:=by unfold B64;omega
 have hv2:(vb n2).length≤10:=qBK 9 n2 qK;have hw3:IntKind.u64.wrap (n3:Int)=(n3:Int):=by rw[IntKind.wrap_u64];omega
 have h643:n3<B64:=by unfold B64;omega
 have hv3:(vb n3).length≤10:=qBK 9 n3 qK;have hw4:IntKind.u64.wrap (n4:Int)=(n4:Int):=by rw[IntKind.wrap_u64];omega
 have h644:n4<B64:=by unfold B64;omega
 have hv4:(vb n4).length≤10:=qBK 9 n4 qK;refine j9 ?_;intro g0 g1 g2;have g3:¬(8:Int)<(n2:Int):=by omega
 have g4:¬(16:Int)<(n3:Int):=by omega
 have g5:¬(16:Int)<(n4:Int):=by omega
 go_enter Tryz.func14,Tryz.ntmps14
 go_wp2_with fail
 refine qBg fun W hW=> ?_;refine j7 ?_;intro HBW HCW hWz;have HC:Hid (∀wr,Below W.heap.size W wr→C5 w.heap.size (.slice A0 n0 d0) (.slice A1 n1 d1) (.slice A2 n2 d2) (.slice A3 n3 d3) (.slice A4 n4 d4) wr):=fun wr hb=>HCW.out.below hb hWz;have HFin:Hid (∀wr,Below W.heap.size W wr→Below w.heap.size w wr):=fun wr hb=>HBW.out.trans (hb.mono HBW.out.size);clear hW HB0 HCW g0 g1 g2 g3 g4 g5;have HA0:=qAg ((HS0.out.below HBW.out (qAi _)).wide (T:=(·<W.heap.size)) fun b hb=>qAh hb HBW.out.size);clear HS0;have HA1:=qAg ((HS1.out.below HBW.out (qAi _)).wide (T:=(·<W.heap.size)) fun b hb=>qAh hb HBW.out.size);clear HS1;have HA2:=qAg ((HS2.out.below HBW.out (qAi _)).wide (T:=(·<W.heap.size)) fun b hb=>qAh hb HBW.out.size);clear HS2;have HA3:=qAg ((HS3.out.below HBW.out (qAi _)).wide (T:=(·<W.heap.size)) fun b hb=>qAh hb HBW.out.size);clear HS3;have HA4:=qAg ((HS4.out.below HBW.out (qAi _)).wide (T:=(·<W.heap.size)) fun b hb=>qAh hb HBW.out.size);clear HS4;have FIN:Hid (∀wr:World,Below W.heap.size W wr→fitB x=false→RMod x w (.returned (.tuple #[.slice none 0 0,.bool false])) wr):=fun wr hb hf=>⟨HFin.out wr hb,.inr ⟨hf,none,0,0,rfl⟩⟩;refine(qA3 n0 W h640).mono ?_;rintro e w1 ⟨vv1,rfl,hown1,hb1⟩;refine qAA ?_;intro HO1 HB1;clear hown1 hb1;obtain⟨z0,z1,z2,z3,z4⟩:=HC.out w1 HB1.out
 go_wp2_with fail
 go_loopw [5,6,7] (fun ok s i wr=>∃(k:Nat) (q:List Nat) (B:Bool),k≤n0∧i= .int .i64 (k:Nat)∧ok= .bool B∧B=(x.recs.take k).all (recOk n0)∧(B=true→q=vb n0++((x.recs.take k).map (lB tB)).flatten)∧q.length≤10+k*12010∧wr.ownsRow W.heap.size 5 1 s q.length (Bs q)∧Below W.heap.size W wr) (fun _ _ i _=>n0-(intOf i).toNat)
 case atStart=>exact⟨0,vb n0,true,qAq _,rfl,rfl,by simp,fun _=>by simp,by omega,HO1.out,HB1.out⟩
 case round=>
  clear z0 z1 z2 z3 z4;obtain⟨k,q,B,hk,rfl,rfl,hB,hq,hq2,hown,hbel⟩:=hrel;have HBe:=qAg hB;have HQ:=qAg hq;have HO:=qAg hown;refine jc ?_;intro HB hs;clear hB hq hown hbel;obtain⟨z0,z1,z2,z3,z4⟩:=HC.out wr HB.out
  by_cases hlt:k<n0
  · obtain⟨p,hp⟩:∃p,x.recs[k]? =some p:=⟨x.recs[k]'(by rw[HL0.out];exact hlt),List.getElem?_eq_getElem _⟩
    as_aux_lemma=>
     have HP:=qAg hp;obtain⟨a,cs,ea,hab,hc,hR⟩:=HA0.out.at hp;subst ea;obtain⟨P0,c3,rfl,-,-,hsq⟩:=hR;have ca0:=(HB.out.cell (p:=a.add k) qB).trans (qBI (K:=tysL.k) rfl (hc 0 _ rfl));have HSQ:=qAg ((hsq.below HB.out (qAi _)).wide (T:=(·<wr.heap.size)) fun b hb=>qAh hb hs);have hp3:p.length≤3000:=HZ.out.recs p (qAl hp);have HF:=qAg (qBJ (lB tB) x.recs k p hp);have HAL:=qAg (qC0 (g:=recOk n0) hp);clear hc hp hsq;obtain⟨np,hnp⟩:∃np,p.length=np:=⟨_,rfl⟩;have HNP:=qAg hnp;rw[hnp] at ca0 hp3;clear hnp;have k0:0≤(k:Int):=by omega
     have k1:(k:Int)<(n0:Int):=by omega
     go_wp2_with fail
     refine(qBz P0 np c3 p n0 6 wr HNP.out HSQ.out hp3 (by omega)).mono ?_;rintro e w2 ⟨hb2,Y,m,cy,ys,rfl,hm,hm2,hmc,hY,hys⟩;have HM:=qAg hm;have HY:=qAg hY;have HB2:=qAg (HB.out.trans (hb2.mono hs));have HO2:=qAg (qA0 HO.out hb2 (qAi _));have hs2:=HB2.out.size;have hrk:recOk n0 p=witB 0 6 (goodT n0) p:=rfl;obtain⟨b,hbb⟩:∃b,witB 0 6 (goodT n0) p=b:=⟨_,rfl⟩;rw[hbb] at hys hrk⊢;have HRK:=qAg hrk;have HYS:=qAg hys;clear hm hY hb2 hbb hrk hys ca0;have hql:q.length+m≤140737488355328:=by omega
     cases B<;>cases b
     all_goals
      go_wp2_with (at_builtin
                   refine qAt _ rfl (.tmp 80) (.tmp 81) rfl W.heap.size u6 q.length q rfl HO2.out Y m cy ys rfl HM.out _ HY.out hql hs2 ?_;intro v5 w5 hown5 hg5 _;have HO5:=qAg hown5;have HB5:=qAg (HB2.out.grown hg5 hs2 (fun i hi=>(HO2.out.lt i hi).1));clear hown5 hg5)
      refine⟨⟨k+1,q++ys,_,by omega,by simp,rfl,?_,?_,?_,?_,HB5.out⟩,by simp[intOf];omega⟩
      · rw[HAL.out,←HBe.out,HRK.out];rfl
      · first
         |(intro hf;cases hf;done)
         |(intro _;rw[HF.out,HQ.out (by simp),HYS.out (by simp),List.append_assoc])
      · rw[List.length_append,HM.out];omega
      · rw[List.length_append,HM.out];exact HO5.out
  · obtain rfl:k=n0:=by omega
    obtain⟨V1,hV1⟩:∃V,V=wr:=⟨_,rfl⟩;subst hV1;have HR:Hid (B=x.recs.all (recOk k)):=by have:=HBe.out;rw[qBU HL0.out] at this;exact this
    have HQ0:Hid (B=true→q=lB (lB tB) x.recs):=fun hf=>by have:=HQ.out hf;rw[qBU HL0.out] at this;rw[this,lB,HL0.out]
    obtain⟨q0,hq0⟩:∃q',q'=q:=⟨_,rfl⟩;subst hq0;obtain⟨v6,hv6⟩:∃v,v=u6:=⟨_,rfl⟩;subst hv6;have HO0:=qAg HO.out;have HV1:=qAg HB.out;clear HBe HQ HO HB;obtain⟨R,hR⟩:∃r,r=B:=⟨_,rfl⟩;subst hR;obtain⟨n0,hn0⟩:∃n,n=k:=⟨_,rfl⟩;subst hn0
    go_wp2_with fail
    refine(qA3 n1 V1 h641).mono ?_;rintro e w3 ⟨vv3,rfl,hown3,hb3⟩;have HO3:=qAg hown3;have HB3:=qAg hb3;have HD1:Hid (∀wr,Below V1.heap.size V1 wr→Below W.heap.size W wr):=fun wr hb=>HV1.out.trans (hb.mono HV1.out.size);clear hown3 hb3 z0 z1 z2 z3 z4;obtain⟨z0,z1,z2,z3,z4⟩:=HC.out w3 (HD1.out w3 HB3.out)
    go_wp2_with fail
    go_loopw [5,10,11] (fun ok s i wr=>∃(k:Nat) (q:List Nat) (B:Bool),k≤n1∧i= .int .i64 (k:Nat)∧ok= .bool B∧(B=(R && (x.funcs.take k).all (fnOk n0)))∧(0<k→B=true)∧(B=true→q=vb n1++((x.funcs.take k).map fnB).flatten)∧q.length≤10+k*40000∧wr.ownsRow V1.heap.size 5 1 s q.length (Bs q)∧Below V1.heap.size V1 wr) (fun _ _ i _=>n1-(intOf i).toNat)
    case atStart=>exact⟨0,vb n1,R,qAq _,rfl,rfl,by simp,fun h=>absurd h (by omega),fun _=>by simp,by omega,HO3.out,HB3.out⟩
    case round=>
     clear z0 z1 z2 z3 z4;obtain⟨k,q,B,hk,rfl,rfl,hB,hB0,hq,hq2,hown,hbel⟩:=hrel;have HBe:=qAg hB;have HBk:=qAg hB0;have HQ:=qAg hq;have HO:=qAg hown;refine jc ?_;intro HB hs;clear hB hB0 hq hown hbel;obtain⟨z0,z1,z2,z3,z4⟩:=HC.out wr (HD1.out wr HB.out)
     by_cases hlt:k<n1
     · refine qAP ?_;intro p hp
       as_aux_lemma=>
        have HP:=qAg hp;obtain⟨a,cs,ea,hab,hc,hR⟩:=HA1.out.at hp;subst ea;have HW2:Hid (∀wr,Below V1.heap.size V1 wr→Below W.heap.size W wr):=HD1.out;obtain⟨_,_,_,rfl,i1,i2,⟨P0,c3,e4,-,-,sq0⟩,⟨P2,c5,e6,-,-,sq1⟩,⟨P4,c7,e8,-,-,sq2⟩⟩:=hR;simp only[List.cons.injEq,and_true] at e4 e6 e8;subst e4 e6 e8;have HBr:=qAg (HD1.out wr HB.out);have hsr:=HBr.out.size;have ca0:=(HBr.out.cell (p:=a.add (k*5)) qB).trans (hc 0 _ rfl);have ca1:=(HBr.out.cell (p:=a.add (k*5+1)) qB).trans (hc 1 _ rfl);rw[qAm a (k*5) 1 (by omega)] at ca1;have ca2:=(HBr.out.cell (p:=a.add (k*5+2)) qB).trans (hc 2 _ rfl);rw[qAm a (k*5) 2 (by omega)] at ca2;have ca3:=(HBr.out.cell (p:=a.add (k*5+3)) qB).trans (hc 3 _ rfl);rw[qAm a (k*5) 3 (by omega)] at ca3;have ca4:=(HBr.out.cell (p:=a.add (k*5+4)) qB).trans (hc 4 _ rfl);rw[qAm a (k*5) 4 (by omega)] at ca4;clear hc;have hz3:=HZ.out.funcs p (qAl hp);obtain⟨hz1,hz2,hz4⟩:=hz3;have HSQ0:=qAg sq0;have HSQ1:=qAg sq1;have HSQ2:=qAg sq2;have HF:=qAg (qBJ fnB x.funcs k p hp);have HAL:=qAg (qC0 (g:=fnOk n0) hp);have FNO:Hid (fnOk n0 p=false→fitB x=false):=fun hf=>by rw[HFA.out,qCh HP.out hf];simp
        have FNB:Hid (B=false→fitB x=false):=fun hf=>by
         have:=HBe.out;rw[hf] at this
         cases hr:R
         · rw[HFA.out,←HR.out,hr];simp
         · rw[hr,Bool.true_and] at this
           rw[HFA.out,qDn this.symm];simp
        clear hp sq0 sq1 sq2;obtain⟨o1,ho1⟩:∃o,p.ret.1=o:=⟨_,rfl⟩;obtain⟨o2,ho2⟩:∃o,p.ret.2=o:=⟨_,rfl⟩;obtain⟨na,hna⟩:∃o,p.args.length=o:=⟨_,rfl⟩;obtain⟨nl,hnl⟩:∃o,p.locs.length=o:=⟨_,rfl⟩;obtain⟨nc,hnc⟩:∃o,p.code.length=o:=⟨_,rfl⟩;rw[ho1] at ca1 i1;rw[ho2] at ca2 i2;rw[hna] at ca0 hz1;rw[hnl] at ca3 hz2;rw[hnc] at ca4 hz4;have HOO:Hid (p.ret=(o1,o2)):=by show p.ret=_;rw[←ho1,←ho2]
        have HNA:=qAg hna;have HNL:=qAg hnl;have HNC:=qAg hnc;clear ho1 ho2 hna hnl hnc;have k0:0≤(k:Int):=by omega
        have k1:(k:Int)<(n1:Int):=by omega
        go_wp2_with fail
        refine qBg fun W2 hW2=> ?_;have HX0:Hid (Below V1.heap.size V1 W2):=by show Below _ _ _;rw[hW2];exact HB.out.alloc hs _
        have HCf:Hid (C5 wr.heap.size (.slice P0 na c3) (.int .i64 o1) (.int .i64 o2) (.slice P2 nl c5) (.slice P4 nc c7) W2):=by show C5 _ _ _ _ _ _ _;rw[hW2];simp[C5,go_sem]
        have HOf:Hid (W2.ownsRow V1.heap.size 5 1 u10 q.length (Bs q)):=by show World.ownsRow _ _ _ _ _ _ _;rw[hW2];exact HO.out.alloc _
        have hfl:wr.heap.size<W2.heap.size:=by rw[hW2];simp
        have HOU:Hid (∀n,Out wr.heap.size n u10):=fun n i hi=> .inl (HO.out.lt i hi).2;clear hW2 ca0 ca1 ca2 ca3 ca4;have hsX:=HX0.out.size;have HSA:Hid (∀X,Below V1.heap.size V1 X→Sq typL (·<X.heap.size) X P0 p.args):=fun X hb=>(HSQ0.out.below (HD1.out X hb) (qAi _)).wide fun b h=>qAh h (HD1.out X hb).size;have HSL:Hid (∀X,Below V1.heap.size V1 X→Sq typL (·<X.heap.size) X P2 p.locs):=fun X hb=>(HSQ1.out.below (HD1.out X hb) (qAi _)).wide fun b h=>qAh h (HD1.out X hb).size;have HSC:Hid (∀X,Below V1.heap.size V1 X→Sq insL (·<X.heap.size) X P4 p.code):=fun X hb=>(HSQ2.out.below (HD1.out X hb) (qAi _)).wide fun b h=>qAh h (HD1.out X hb).size;refine(qBz P0 na c3 p.args n0 4 W2 HNA.out (HSA.out _ HX0.out) hz1 (by omega)).mono ?_;rintro e w4 ⟨hb4,Y1,my1,cy1,ys1,rfl,hm1,hm2,-,hY1,hys1⟩;have HX4:=qAg (HX0.out.trans (hb4.mono hsX));have HC4:=qAg (HCf.out.below hb4 hfl);have HO4:=qAg (qA0 HOf.out hb4 (qAi _));have HY1:=qAg (hY1.wide (T:=fun b=>wr.heap.size≤b∧b<w4.heap.size) fun b h=>⟨by omega,h.2⟩);have HM1:=qAg hm1;have hfl4:wr.heap.size<w4.heap.size:=qAh hfl hb4.size;have hs4:=HX4.out.size;obtain⟨f0,f1,f2,f3,f4⟩:=HC4.out;obtain⟨t1,ht1⟩:∃b,witB 0 4 (goodT n0) p.args=b:=⟨_,rfl⟩;rw[ht1] at hys1⊢;have HYS1:=qAg hys1;have HT1:=qAg ht1;clear hb4 hm1 hY1 hys1 ht1
        go_wp2_with fail
        refine(qBz P2 nl c5 p.locs n0 (8-(na:Int)) w4 HNL.out (HSL.out _ HX4.out) hz2 (by omega)).mono ?_;rintro e w5 ⟨hb5,Y2,my2,cy2,ys2,rfl,hm3,hm4,-,hY2,hys2⟩;have HX5:=qAg (HX4.out.trans (hb5.mono hs4));have hs5:=HX5.out.size;have HY1b:=qAg (HY1.out.keep (w':=w5) fun b h=>hb5.block b h.2);have hl45:=hb5.size;have HG5:Hid (Rgn V1 wr.heap.size w5.heap.size (.slice P0 na c3) (.int .i64 o1) (.int .i64 o2) (.slice P2 nl c5) (.slice P4 nc c7) Y1 Y2 ys1 ys2 u10 q w5):=
         ⟨qA0 HO4.out hb5 (qAi _),HX5.out,HC4.out.below hb5 hfl4,HY1b.out.wide fun b h=>⟨h.1,by omega⟩,hY2.wide fun b h=>⟨by omega,h.2⟩,HOU.out _,by omega,qAi _⟩
        have HM2:=qAg hm3;obtain⟨t2,ht2⟩:∃b,witB 0 (8-(na:Int)) (goodT n0) p.locs=b:=⟨_,rfl⟩;rw[ht2] at hys2⊢;have HYS2:=qAg hys2;have HFO:Hid (fnOk n0 p=(t1 && goodT n0 p.ret && t2 && witB 1 64 goodIn p.code)):=by
         show fnOk n0 p=_
         unfold fnOk;rw[HNA.out,HT1.out,ht2]
        clear hb5 hm3 hY2 hys2 ht2 f0 f1 f2 f3 f4 HY1 HY1b;obtain⟨f0,f1,f2,f3,f4⟩:=HG5.out.c5
        cases B
        · go_wp2_with fail
          go_ret2;exact FIN.out _ (HD1.out _ HX5.out) (FNB.out (by simp))
        cases t1
        · go_wp2_with fail
          go_ret2;exact FIN.out _ (HD1.out _ HX5.out) (FNO.out (by rw[HFO.out];simp))
        cases t2
        · go_wp2_with fail
          go_ret2;exact FIN.out _ (HD1.out _ HX5.out) (FNO.out (by rw[HFO.out];simp))
        go_wp2_with fail
        refine(qIz o1 o2 n0 w5).mono ?_;rintro e w6 ⟨rfl,hb6⟩;have HG6:=qAg (HG5.out.call hb6);have HX6:=qAg HG6.out.bel;have HGT:Hid (goodT n0 p.ret=goodB o1 o2 n0):=by show goodT n0 p.ret=_;rw[HOO.out];rfl
        clear hb6 f0 f1 f2 f3 f4;obtain⟨f0,f1,f2,f3,f4⟩:=HG6.out.c5;obtain⟨gg,hgg⟩:∃b,goodB o1 o2 n0=b:=⟨_,rfl⟩;rw[hgg] at HGT⊢;have HGG:=qAg hgg;clear hgg
        cases gg
        · go_wp2_with fail
          go_ret2;exact FIN.out _ (HD1.out _ HX6.out) (FNO.out (by rw[HFO.out,HGT.out];simp))
        by_cases hc1:1≤nc
        rotate_left
        · have hc1':¬(1:Int)≤(nc:Int):=by omega
          go_wp2_with fail
          go_ret2;exact FIN.out _ (HD1.out _ HX6.out) (FNO.out (by rw[HFO.out];rw[wit_few HNC.out hc1];simp))
        by_cases hc2:nc≤64
        rotate_left
        · have hc1':(1:Int)≤(nc:Int):=by omega
          have hc2':¬(nc:Int)≤(64:Int):=by omega
          have hc3':decide (nc≤64)=false:=by simp;omega
          have hc4':decide ((nc:Int)≤64)=false:=by simp;omega
          go_wp2_with fail
          go_ret2;exact FIN.out _ (HD1.out _ HX6.out) (FNO.out (by rw[HFO.out];rw[qIV HNC.out hc2];simp))
        have hc1':(1:Int)≤(nc:Int):=by omega
        have hc2':(nc:Int)≤(64:Int):=by omega
        go_wp2_with fail
        have HYL1:Hid (ys1=lB tB p.args):=HYS1.out (by simp);have HYL2:Hid (ys2=lB tB p.locs):=HYS2.out (by simp);have HTL:Hid ((typB o1 o2).length≤20):=qCs o1 o2 i1.2 i2.2;have hnv:(vb nc).length≤10:=qBK 9 nc qK;have hwc:IntKind.u64.wrap (nc:Int)=(nc:Int):=by rw[IntKind.wrap_u64];omega
        have HWC:=qAg hwc;have h64c:nc<B64:=by unfold B64;omega
        clear hwc;obtain⟨hi,hhi⟩:∃n,w5.heap.size=n:=⟨_,rfl⟩;rw[hhi] at HG6;clear HG5;obtain⟨yr,hyr⟩:∃y,typB o1 o2=y:=⟨_,rfl⟩;have hyl:yr.length≤20:=by rw[←hyr];exact HTL.out
        refine j3 ?_;intro TY HYR;clear hyr hhi;have HGd:=qAg HG6.out.drew
        go_cut [10] (fun s wx=>Rgn V1 wr.heap.size hi (.slice P0 na c3) (.int .i64 o1) (.int .i64 o2) (.slice P2 nl c5) (.slice P4 nc c7) Y1 Y2 ys1 ys2 s (q++ys1++yr++ys2++vb nc) wx)
        case first=>
         as_aux_lemma=>
          have S6:Hid (w6.drew.cell? ⟨wr.heap.size,1,none⟩=some (.int .i64 o1)∧w6.drew.cell? ⟨wr.heap.size,2,none⟩=some (.int .i64 o2)∧w6.drew.cell? ⟨wr.heap.size,4,none⟩=some (.slice P4 nc c7)):=⟨HGd.out.c5.2.1,HGd.out.c5.2.2.1,HGd.out.c5.2.2.2.2⟩
          go_region_held3 (fun w'=>w'.cell? ⟨wr.heap.size,1,none⟩=some (.int .i64 o1)∧w'.cell? ⟨wr.heap.size,2,none⟩=some (.int .i64 o2)∧w'.cell? ⟨wr.heap.size,4,none⟩=some (.slice P4 nc c7))
           (first|exact Sc.out|exact Sb.out|exact Sa.out|exact S9.out|exact S8.out|exact S7.out|exact S6.out)
           (first
           |(with_reducible refine qBV (.tmp 149) (.tmp 150) 62 ?_
             refine qBC _ rfl (.tmp 149) (.tmp 150) rfl V1.heap.size u10 q.length q rfl HGd.out.own Y1 my1 cy1 ys1 rfl HM1.out _ HGd.out.y1 (by omega) HGd.out.bel.size ?_;intro v7 w7 hown7 hg7 ha7;have HG7:=qAg (HGd.out.app HM1.out hown7 hg7 ha7);have S7:=qAg (qBr HG7.out);clear hown7 hg7 ha7)
           |(go_at_call 29
             refine(TY.out _).mono ?_;rintro e w8 ⟨v8,rfl,hown8,hb8⟩;obtain⟨A8,c8,rfl,-,-,-,hB8⟩:=qAu hown8;have HY8:=qAg hB8;have HG8:=qAg (HG7.out.call hb8);have S8:=qAg (qBr HG8.out);clear hown8 hb8 hB8)
           |(with_reducible refine qBV (.tmp 151) (.tmp 154) 62 ?_
             refine qBC _ rfl (.tmp 151) (.tmp 154) rfl V1.heap.size v7 (q++ys1).length (q++ys1) rfl HG8.out.own A8 yr.length c8 yr rfl rfl _ HY8.out (by rw[List.length_append,HM1.out];omega) HG8.out.bel.size ?_;intro v9 w9 hown9 hg9 ha9;have HG9:=qAg (HG8.out.app rfl hown9 hg9 ha9);have S9:=qAg (qBr HG9.out);clear hown9 hg9 ha9)
           |(with_reducible refine qBV (.tmp 155) (.tmp 156) 62 ?_
             refine qBC _ rfl (.tmp 155) (.tmp 156) rfl V1.heap.size v9 (q++ys1++yr).length (q++ys1++yr) rfl HG9.out.own Y2 my2 cy2 ys2 rfl HM2.out _ HG9.out.y2 (by rw[List.length_append,List.length_append,HM1.out];omega) HG9.out.bel.size ?_;intro va wa howna hga haa;have HGa:=qAg (HG9.out.app HM2.out howna hga haa);have Sa:=qAg (qBr HGa.out);clear howna hga haa)
           |(go_at_call 26
             rw[HWC.out];refine(qA3 nc _ h64c).mono ?_;rintro e wb ⟨vb',rfl,hownb,hbb⟩;obtain⟨Ab,cb,rfl,-,-,-,hBb⟩:=qAu hownb;have HYb:=qAg hBb;have HGb:=qAg (HGa.out.call hbb);have Sb:=qAg (qBr HGb.out);clear hownb hbb hBb)
           |(with_reducible refine qBV (.tmp 157) (.tmp 162) 62 ?_
             refine qBC _ rfl (.tmp 157) (.tmp 162) rfl V1.heap.size va (q++ys1++yr++ys2).length (q++ys1++yr++ys2) rfl HGb.out.own Ab (vb nc).length cb (vb nc) rfl rfl _ HYb.out (by rw[List.length_append,List.length_append,List.length_append,HM1.out,HM2.out];omega) HGb.out.bel.size ?_;intro vc wc' hownc hgc hac;have HGc:=qAg (HGb.out.app rfl hownc hgc hac);have Sc:=qAg (qBr HGc.out);clear hownc hgc hac))
          all_goals
           go_wp2_with fail
           go_meet
           exact HGc.out
        case rest=>
         have HG0:=qAg hcut;clear hcut f0 f1 f2 f3 f4 z0 z1 z2 z3 z4 HGd HG6;obtain⟨q1,hq1⟩:∃q',q++ys1++yr++ys2++vb nc=q':=⟨_,rfl⟩;rw[hq1] at HG0;have hq1l:q1.length≤10+k*40000+24060:=by rw[←hq1];simp only[List.length_append,HM1.out,HM2.out];omega
         have HQ1:=qAg hq1;clear hq1;obtain⟨f0,f1,f2,f3,f4⟩:=HG0.out.c5
         go_wp2_with fail
         go_loopw [10,17] (fun s i wx=>∃(j:Nat) (qj:List Nat),j≤nc∧i= .int .i64 (j:Nat)∧(p.code.take j).all goodIn=true∧qj=q1++((p.code.take j).map iB).flatten∧qj.length≤q1.length+j*5∧Rgn V1 wr.heap.size hi (.slice P0 na c3) (.int .i64 o1) (.int .i64 o2) (.slice P2 nl c5) (.slice P4 nc c7) Y1 Y2 ys1 ys2 s qj wx) (fun _ i _=>nc-(intOf i).toNat)
         case atStart=>exact⟨0,q1,qAq _,rfl,by simp,by simp,by omega,HG0.out⟩
         case round=>
          clear f0 f1 f2 f3 f4;obtain⟨j,qj,hj,rfl,hall,hqj,hqjl,hG⟩:=hrel;have HJA:=qAg hall;have HQJ:=qAg hqj;have HG:=qAg hG;clear hall hqj hG;obtain⟨f0,f1,f2,f3,f4⟩:=HG.out.c5
          by_cases hjl:j<nc
          · obtain⟨t,ht⟩:∃t,p.code[j]? =some t:=⟨p.code[j]'(by rw[HNC.out];exact hjl),List.getElem?_eq_getElem _⟩
            as_aux_lemma=>
             have HT:=qAg ht;obtain⟨ac,cs,ec,hacb,hcc,hRc⟩:=(HSC.out _ HG.out.bel).at ht;subst ec;obtain⟨rfl,-,-,-⟩:=hRc;have cc0:=hcc 0 _ rfl;have cc1:=hcc 1 _ rfl;have cc2:=hcc 2 _ rfl;rw[show j*insL.k+0=j*3 from rfl] at cc0;rw[show j*insL.k+1=j*3+1 from rfl,qAm ac (j*3) 1 (by omega)] at cc1;rw[show j*insL.k+2=j*3+2 from rfl,qAm ac (j*3) 2 (by omega)] at cc2;have HFJ:=qAg (qBJ iB p.code j t ht);clear hcc ht;obtain⟨t0,t1,t2⟩:=t;have j0:0≤(j:Int):=by omega
             have j1:(j:Int)<(nc:Int):=by omega
             go_wp2_with fail
             refine(qIy t0 t1 t2 _).mono ?_;rintro e we ⟨ve,rfl,howne,hbe⟩;obtain⟨Ae,ce,rfl,-,-,-,hBe⟩:=qAu howne;have HYe:=qAg hBe;have HGe:=qAg (HG.out.call hbe);clear howne hbe hBe cc0 cc1 cc2
             cases hgi:goodIn (t0,t1,t2)
             · have hib:insB t0 t1 t2=[]:=qJR hgi
               rw[hib];simp only[List.length_nil];have HGI:=qAg hgi;clear hib hgi
               go_wp2_with fail
               go_ret2;exact FIN.out _ (HD1.out _ HGe.out.bel) (FNO.out (by rw[HFO.out,wit_one HT.out HGI.out];simp))
             · have hip:0<(insB t0 t1 t2).length:=qE7 (t:=(t0,t1,t2)) hgi
               have hil:(insB t0 t1 t2).length≤5:=qE9 (t0,t1,t2);have HGI:=qAg hgi;have HIB:Hid (iB (t0,t1,t2)=insB t0 t1 t2):=rfl;generalize insB t0 t1 t2=yi at*;have hi1:((yi.length:Int)==0)=false:=by simp;exact fun e=>by rw[e] at hip;simp at hip
               have hi2:(yi.length==0)=false:=by simp;exact fun e=>by rw[e] at hip;simp at hip
               obtain⟨ny,hny⟩:∃n,yi.length=n:=⟨_,rfl⟩;rw[hny] at hi1 hi2 hip hil⊢;have HNY:=qAg hny;clear hgi hny
               go_wp2_with (at_builtin
                            refine qAt _ rfl (.tmp 180) (.tmp 181) rfl V1.heap.size u10 qj.length qj rfl HGe.out.own Ae ny ce yi rfl HNY.out _ HYe.out (by omega) HGe.out.bel.size ?_;intro vf wf hownf hgf haf;have HGf:=qAg (HGe.out.app HNY.out hownf hgf haf);clear hownf hgf haf)
               refine⟨⟨j+1,qj++yi,by omega,by simp,qEO HJA.out HT.out HGI.out,?_,?_,HGf.out⟩,by simp[intOf];omega⟩
               · rw[HFJ.out,HQJ.out,HIB.out,List.append_assoc]
               · rw[List.length_append,HNY.out];omega
          · obtain rfl:j=nc:=by omega
            go_wp2_with fail
            have hqe:qj=q++fnB p:=by
             rw[HQJ.out,←HQ1.out,HYL1.out,HYL2.out,←HYR.out,qBU HNC.out];simp only[fnB,List.append_assoc]
             conv=>rhs;rw[show lB iB p.code=vb j++(p.code.map iB).flatten by rw[lB,HNC.out]]
            have hfo:fnOk n0 p=true:=by
             have:=HJA.out;rw[qBU HNC.out] at this;rw[HFO.out,HGT.out,qIW HNC.out hc1 hc2 this]
             rfl
            refine⟨⟨k+1,q++fnB p,true,by omega,by simp,rfl,?_,fun _=>rfl,fun _=> ?_,?_,?_,HG.out.bel⟩,by simp[intOf];omega⟩
            · rw[HAL.out,hfo,Bool.and_true,←HBe.out]
            · rw[HF.out,HQ.out (by simp),List.append_assoc]
            · rw[←hqe];omega
            · rw[←hqe];exact HG.out.own
     · obtain rfl:k=n1:=by omega
       obtain rfl:B=true:=HBk.out (by omega);obtain⟨V2,hV2⟩:∃V,V=wr:=⟨_,rfl⟩;subst hV2;have HR1:Hid (R=true∧x.funcs.all (fnOk n0)=true):=by
        have:=HBe.out;rw[qBU HL1.out] at this;have h2:=this.symm;rw[Bool.and_eq_true] at h2;exact h2
       have HQ1:Hid (q=lB fnB x.funcs):=by have:=HQ.out (by simp);rw[qBU HL1.out] at this;show q=_;rw[this,lB,HL1.out]
       obtain⟨q1,hq1⟩:∃q',q'=q:=⟨_,rfl⟩;subst hq1;obtain⟨v10,hv10⟩:∃v,v=u10:=⟨_,rfl⟩;subst hv10;obtain⟨n1,hn1⟩:∃n,n=k:=⟨_,rfl⟩;subst hn1;have HO1':=qAg HO.out;have HV2:=qAg HB.out;clear HBe HQ HO HB HBk HO3 HB3
       go_wp2_with fail
       refine(qA3 n2 V2 h642).mono ?_;rintro e w4 ⟨vv4,rfl,hown4,hb4⟩;have HO4:=qAg hown4;have HB4:=qAg hb4;have HD2:Hid (∀wr,Below V2.heap.size V2 wr→Below W.heap.size W wr):=fun wr hb=>HD1.out wr (HV2.out.trans (hb.mono HV2.out.size));clear hown4 hb4 z0 z1 z2 z3 z4;obtain⟨z0,z1,z2,z3,z4⟩:=HC.out w4 (HD2.out w4 HB4.out)
       go_wp2_with fail
       go_loopw [5,19,20] (fun ok s i wr=>∃(k:Nat) (q:List Nat) (B:Bool),k≤n2∧i= .int .i64 (k:Nat)∧ok= .bool B∧B=(x.imps.take k).all (impOk n0)∧(B=true→q=vb n2++((x.imps.take k).map impB).flatten)∧q.length≤10+k*12030∧wr.ownsRow V2.heap.size 5 1 s q.length (Bs q)∧Below V2.heap.size V2 wr) (fun _ _ i _=>n2-(intOf i).toNat)
       case atStart=>exact⟨0,vb n2,true,qAq _,rfl,rfl,by simp,fun _=>by simp,by omega,HO4.out,HB4.out⟩
       case round=>
        clear z0 z1 z2 z3 z4;obtain⟨k,q,B,hk,rfl,rfl,hB,hq,hq2,hown,hbel⟩:=hrel;have HBe:=qAg hB;have HQ:=qAg hq;have HO:=qAg hown;refine jc ?_;intro HB hs;clear hB hq hown hbel;have HBr:=qAg (HD2.out wr HB.out);have hsr:=HBr.out.size;obtain⟨z0,z1,z2,z3,z4⟩:=HC.out wr HBr.out
        by_cases hlt:k<n2
        · refine qAR ?_;intro p hp
          as_aux_lemma=>
           have HP:=qAg hp;obtain⟨a,cs,ea,hab,hc,hR⟩:=HA2.out.at hp;subst ea;obtain⟨_,rfl,i1,i2,⟨P0,c3,e4,-,-,sq0⟩⟩:=hR;simp only[List.cons.injEq,and_true] at e4;subst e4;have hz1:=HZ.out.imps p (qAl hp);obtain⟨o1,ho1⟩:∃o,p.ret.1=o:=⟨_,rfl⟩;obtain⟨o2,ho2⟩:∃o,p.ret.2=o:=⟨_,rfl⟩;obtain⟨na,hna⟩:∃o,p.args.length=o:=⟨_,rfl⟩;rw[ho1,ho2,hna] at hc;rw[ho1] at i1;rw[ho2] at i2;rw[hna] at hz1;have CA:Hid (∀X,Below W.heap.size W X→X.cell? (a.add (k*3))=some (.slice P0 na c3)∧X.cell? ⟨(a.add (k*3)).block,(a.add (k*3)).off+1,none⟩=some (.int .i64 o1)∧X.cell? ⟨(a.add (k*3)).block,(a.add (k*3)).off+2,none⟩=some (.int .i64 o2)):=fun X hb=>
            ⟨(hb.cell (p:=a.add (k*3)) qB).trans (hc 0 _ rfl),by rw[←qAm a (k*3) 1 (by omega)];exact(hb.cell (p:=a.add (k*3+1)) qB).trans (hc 1 _ rfl),by rw[←qAm a (k*3) 2 (by omega)];exact(hb.cell (p:=a.add (k*3+2)) qB).trans (hc 2 _ rfl)⟩
           have HOO:Hid (p.ret=(o1,o2)):=by show p.ret=_;rw[←ho1,←ho2]
           have HNA:=qAg hna;have HSQ0:=qAg sq0;have HF:=qAg (qBJ impB x.imps k p hp);have HAL:=qAg (qC0 (g:=impOk n0) hp);clear hc hp sq0 ho1 ho2 hna;obtain⟨ca0,ca1,ca2⟩:=CA.out wr HBr.out;have k0:0≤(k:Int):=by omega
           have k1:(k:Int)<(n2:Int):=by omega
           go_wp2_with fail
           refine(qBz P0 na c3 p.args n0 4 wr HNA.out ((HSQ0.out.below HBr.out (qAi _)).wide fun b h=>qAh h hsr) hz1 (by omega)).mono ?_;rintro e w5 ⟨hb5,Y1,my1,cy1,ys1,rfl,hm1,hm2,-,hY1,hys1⟩;have HX5:=qAg (HB.out.trans (hb5.mono hs));have HO5:=qAg (qA0 HO.out hb5 (qAi _));have HY1:=qAg (hY1.wide (T:=(·<w5.heap.size)) fun b h=>h.2);have HM1:=qAg hm1;have hs5:=HX5.out.size;obtain⟨t1,ht1⟩:∃b,witB 0 4 (goodT n0) p.args=b:=⟨_,rfl⟩;rw[ht1] at hys1⊢;have HYS1:=qAg hys1;have HFO:Hid (impOk n0 p=(t1 && goodB o1 o2 n0)):=by
            show(witB 0 4 (goodT n0) p.args && goodT n0 p.ret)=_
            rw[ht1,HOO.out]
            rfl
           clear hb5 hm1 hY1 hys1 ht1 ca0 ca1 ca2 z0 z1 z2 z3 z4;obtain⟨ca0,ca1,ca2⟩:=CA.out w5 (HD2.out w5 HX5.out);obtain⟨z0,z1,z2,z3,z4⟩:=HC.out w5 (HD2.out w5 HX5.out);obtain⟨yr,hyr⟩:∃y,typB o1 o2=y:=⟨_,rfl⟩;have hyl:yr.length≤20:=by rw[←hyr];exact qCs o1 o2 i1.2 i2.2
           refine j3 ?_;intro TY HYR;clear hyr;have hql:q.length+my1≤140737488355328:=by omega
           have hql2:q.length+my1+yr.length≤140737488355328:=by omega
           go_upto_region 34 with(fail)
           go_cut [5] (fun s5 wx=>s5= .bool (B && impOk n0 p)∧Below V2.heap.size V2 wx∧wx.ownsRow V2.heap.size 5 1 u19 q.length (Bs q)∧Byt (·<wx.heap.size) wx Y1 ys1)
           case first=>
            cases B
            · go_wp2_with fail
              go_meet
              exact⟨by simp,HX5.out,HO5.out,HY1.out⟩
            cases t1
            · go_wp2_with fail
              go_meet
              exact⟨by rw[HFO.out];simp,HX5.out,HO5.out,HY1.out⟩
            go_wp2_with fail
            refine(qIz o1 o2 n0 w5).mono ?_;rintro e w6 ⟨rfl,hb6⟩;have HX6:=qAg (HX5.out.trans (hb6.mono hs5));have HO6:=qAg (qA0 HO5.out hb6 (qAi _));have HY6:=qAg ((HY1.out.keep (w':=w6) fun b h=>hb6.block b h).wide (T:=(·<w6.heap.size)) fun b h=>qAh h hb6.size);clear hb6
            go_wp2_with fail
            go_meet
            exact⟨by rw[HFO.out];simp,HX6.out,HO6.out,HY6.out⟩
           case rest=>
            obtain⟨rfl,hX6,hO6,hY6⟩:=hcut;clear ca0 ca1 ca2 z0 z1 z2 z3 z4;have HX6:=qAg hX6;have HX6d:=qAg hX6.drew;have HO6d:Hid (wc.drew.ownsRow V2.heap.size 5 1 u19 q.length (Bs q)):=qA0 hO6 ((qAk _ wc).drew) (qAi _);have HY6d:Hid (Byt (·<wc.heap.size) wc.drew Y1 ys1):=hY6.keep fun _ _=>rfl;have HS6:=qAg hX6.size;obtain⟨ca0,ca1,ca2⟩:=CA.out wc (HD2.out wc HX6.out);obtain⟨z0,z1,z2,z3,z4⟩:=HC.out wc (HD2.out wc HX6.out);clear hX6 hO6 hY6;obtain⟨ok,hok⟩:∃b,(B && impOk n0 p)=b:=⟨_,rfl⟩;rw[hok];have HOK:=qAg hok;clear hok
            as_aux_lemma=>
             go_wp2_with fail
             have SS:Hid (∀w',Below W.heap.size W w'→w'.cell? ⟨w.heap.size,2,none⟩=some (.slice (some a) n2 d2)∧w'.cell? ⟨(a.add (k*3)).block,(a.add (k*3)).off+1,none⟩=some (.int .i64 o1)∧w'.cell? ⟨(a.add (k*3)).block,(a.add (k*3)).off+2,none⟩=some (.int .i64 o2)):=fun w' hb=>⟨(HC.out w' hb).2.2.1,(CA.out w' hb).2.1,(CA.out w' hb).2.2⟩;have S6:=qAg (SS.out wc.drew (HD2.out _ HX6d.out))
             go_region_held3 (fun w'=>w'.cell? ⟨w.heap.size,2,none⟩=some (.slice (some a) n2 d2)∧w'.cell? ⟨(a.add (k*3)).block,(a.add (k*3)).off+1,none⟩=some (.int .i64 o1)∧w'.cell? ⟨(a.add (k*3)).block,(a.add (k*3)).off+2,none⟩=some (.int .i64 o2))
              (first|exact S9.out|exact S8.out|exact S7.out|exact S6.out)
              (first
              |(with_reducible refine qBV (.tmp 220) (.tmp 221) 62 ?_
                refine qBC _ rfl (.tmp 220) (.tmp 221) rfl V2.heap.size u19 q.length q rfl HO6d.out Y1 my1 cy1 ys1 rfl HM1.out _ HY6d.out hql HS6.out ?_;intro v7 w7 hown7 hg7 _;have HO7:=qAg hown7;have HB7:=qAg (HX6d.out.grown hg7 HS6.out (fun i hi=>(HO6d.out.lt i hi).1));have S7:=qAg (SS.out w7 (HD2.out _ HB7.out));clear hown7 hg7)
              |(go_at_call 29
                refine(TY.out _).mono ?_;rintro e w8 ⟨v8,rfl,hown8,hb8⟩;obtain⟨A8,c8,rfl,-,-,-,hB8⟩:=qAu hown8;have HY8:=qAg hB8;have HB8:=qAg (HB7.out.trans (hb8.mono HB7.out.size));have HO8:=qAg (qA0 HO7.out hb8 (qAi _));have HS8:=qAg HB8.out.size;have S8:=qAg (SS.out w8 (HD2.out _ HB8.out));clear hown8 hb8 hB8)
              |(with_reducible refine qBV (.tmp 222) (.tmp 229) 62 ?_
                refine qBC _ rfl (.tmp 222) (.tmp 229) rfl V2.heap.size v7 (q.length+my1) (q++ys1) rfl HO8.out A8 yr.length c8 yr rfl rfl _ HY8.out hql2 HS8.out ?_;intro v9 w9 hown9 hg9 _;have HO9:=qAg hown9;have HB9:=qAg (HB8.out.grown hg9 HS8.out (fun i hi=>(HO8.out.lt i hi).1));have S9:=qAg (SS.out w9 (HD2.out _ HB9.out));clear hown9 hg9))
             all_goals
              go_wp2_with fail
              refine⟨⟨k+1,q++ys1++yr,ok,by omega,by simp,rfl,?_,fun hf=> ?_,?_,?_,HB9.out⟩,by simp[intOf];omega⟩
              · rw[HAL.out,←HBe.out,HOK.out]
              · have hh:=HOK.out
                rw[hf,Bool.and_eq_true] at hh;have h2:=hh.2;rw[HFO.out,Bool.and_eq_true] at h2;rw[HF.out,HQ.out hh.1,HYS1.out h2.1,impB,HYR.out];simp only[List.append_assoc]
              · rw[List.length_append,List.length_append,HM1.out];omega
              · rw[List.length_append,List.length_append,HM1.out];exact HO9.out
        · obtain rfl:k=n2:=by omega
          obtain⟨V3,hV3⟩:∃V,V=wr:=⟨_,rfl⟩;subst hV3;have HR2:Hid (B=x.imps.all (impOk n0)):=by have:=HBe.out;rw[qBU HL2.out] at this;exact this
          have HQ2:Hid (B=true→q=lB impB x.imps):=fun hf=>by have:=HQ.out hf;rw[qBU HL2.out] at this;rw[this,lB,HL2.out]
          obtain⟨q2,hq2'⟩:∃q',q'=q:=⟨_,rfl⟩;subst hq2';obtain⟨v19,hv19⟩:∃v,v=u19:=⟨_,rfl⟩;subst hv19;obtain⟨n2,hn2⟩:∃n,n=k:=⟨_,rfl⟩;subst hn2;obtain⟨R2,hR2⟩:∃r,r=B:=⟨_,rfl⟩;subst hR2;have HO2':=qAg HO.out;have HV3:=qAg HB.out;have hl2:=hq2;clear HBe HQ HO HB HO4 HB4 HBr hsr
          go_wp2_with fail
          refine(qA3 n3 V3 h643).mono ?_;rintro e w5 ⟨vv5,rfl,hown5,hb5⟩;have HO5:=qAg hown5;have HB5:=qAg hb5;have HD3:Hid (∀wr,Below V3.heap.size V3 wr→Below W.heap.size W wr):=fun wr hb=>HD2.out wr (HV3.out.trans (hb.mono HV3.out.size));clear hown5 hb5 z0 z1 z2 z3 z4;obtain⟨z0,z1,z2,z3,z4⟩:=HC.out w5 (HD3.out w5 HB5.out)
          go_wp2_with fail
          go_loopw [23,24] (fun s i wr=>∃(k:Nat) (q:List Nat),k≤n3∧i= .int .i64 (k:Nat)∧q=vb n3++((x.ints.take k).map numB).flatten∧q.length≤10+k*8∧wr.ownsRow V3.heap.size 5 1 s q.length (Bs q)∧Below V3.heap.size V3 wr) (fun _ i _=>n3-(intOf i).toNat)
          case atStart=>exact⟨0,vb n3,qAq _,rfl,by simp,by omega,HO5.out,HB5.out⟩
          case round=>
           clear z0 z1 z2 z3 z4;obtain⟨k,q,hk,rfl,hq,hq2,hown,hbel⟩:=hrel;have HQ:=qAg hq;have HO:=qAg hown;refine jc ?_;intro HB hs;clear hq hown hbel;have HBr:=qAg (HD3.out wr HB.out);have hsr:=HBr.out.size;obtain⟨z0,z1,z2,z3,z4⟩:=HC.out wr HBr.out
           by_cases hlt:k<n3
           · obtain⟨p,hp⟩:∃p,x.ints[k]? =some p:=⟨x.ints[k]'(by rw[HL3.out];exact hlt),List.getElem?_eq_getElem _⟩
             as_aux_lemma=>
              obtain⟨a,cs,ea,hab,hc,hR⟩:=HA3.out.at hp;subst ea;obtain⟨rfl,hp64⟩:=hR;have ca0:=(HBr.out.cell (p:=a.add k) qB).trans (qBI (K:=numL.k) rfl (hc 0 _ rfl));have HF:=qAg (qBJ numB x.ints k p hp);clear hc hp;have k0:0≤(k:Int):=by omega
              have k1:(k:Int)<(n3:Int):=by omega
              go_wp2_with fail
              refine(qE2 p 8 wr hp64).mono ?_;rintro e w6 ⟨v6',rfl,hown6,hb6⟩;rw[show wid 8=8 by decide] at hown6;obtain⟨A6,c6,rfl,-,-,-,hB6⟩:=qAu hown6;have HY6:=qAg hB6;have HB6:=qAg (HB.out.trans (hb6.mono hs));have HO6:=qAg (qA0 HO.out hb6 (qAi _));have hs6:=HB6.out.size;clear hown6 hb6 hB6 ca0
              go_wp2_with (at_builtin
                           refine qAt _ rfl (.tmp 243) (.tmp 249) rfl V3.heap.size u23 q.length q rfl HO6.out A6 8 c6 (fb p 8) rfl (qB9 p 8) _ HY6.out (by omega) hs6 ?_;intro v7 w7 hown7 hg7 _;have HO7:=qAg hown7;have HB7:=qAg (HB6.out.grown hg7 hs6 (fun i hi=>(HO6.out.lt i hi).1));clear hown7 hg7)
              refine⟨⟨k+1,q++fb p 8,by omega,by simp,?_,?_,?_,HB7.out⟩,by simp[intOf];omega⟩
              · rw[HF.out,HQ.out,numB,List.append_assoc]
              · rw[List.length_append,qB9];omega
              · rw[List.length_append,qB9];exact HO7.out
           · obtain rfl:k=n3:=by omega
             obtain⟨V4,hV4⟩:∃V,V=wr:=⟨_,rfl⟩;subst hV4;have HQ3:Hid (q=lB numB x.ints):=by have:=HQ.out;rw[qBU HL3.out] at this;show q=_;rw[this,lB,HL3.out]
             obtain⟨q3,hq3'⟩:∃q',q'=q:=⟨_,rfl⟩;subst hq3';obtain⟨v23,hv23⟩:∃v,v=u23:=⟨_,rfl⟩;subst hv23;obtain⟨n3,hn3⟩:∃n,n=k:=⟨_,rfl⟩;subst hn3;have HO3':=qAg HO.out;have HV4:=qAg HB.out;have hl3:=hq2;clear HQ HO HB HO5 HB5 HBr hsr
             go_wp2_with fail
             refine(qA3 n4 V4 h644).mono ?_;rintro e w6 ⟨vv6,rfl,hown6,hb6⟩;have HO6:=qAg hown6;have HB6:=qAg hb6;have HD4:Hid (∀wr,Below V4.heap.size V4 wr→Below W.heap.size W wr):=fun wr hb=>HD3.out wr (HV4.out.trans (hb.mono HV4.out.size));clear hown6 hb6 z0 z1 z2 z3 z4;obtain⟨z0,z1,z2,z3,z4⟩:=HC.out w6 (HD4.out w6 HB6.out)
             go_wp2_with fail
             go_loopw [5,25,26] (fun ok s i wr=>∃(k:Nat) (q:List Nat) (B:Bool),k≤n4∧i= .int .i64 (k:Nat)∧ok= .bool B∧B=(R2 && (x.texts.take k).all shortB)∧q=vb n4++((x.texts.take k).map pt).flatten∧q.length≤10+k*3010∧wr.ownsRow V4.heap.size 5 1 s q.length (Bs q)∧Below V4.heap.size V4 wr) (fun _ _ i _=>n4-(intOf i).toNat)
             case atStart=>exact⟨0,vb n4,R2,qAq _,rfl,rfl,by simp,by simp,by omega,HO6.out,HB6.out⟩
             case round=>
              clear z0 z1 z2 z3 z4;obtain⟨k,q,B,hk,rfl,rfl,hB,hq,hq2,hown,hbel⟩:=hrel;have HBe:=qAg hB;have HQ:=qAg hq;have HO:=qAg hown;refine jc ?_;intro HB hs;clear hB hq hown hbel;have HBr:=qAg (HD4.out wr HB.out);have hsr:=HBr.out.size;obtain⟨z0,z1,z2,z3,z4⟩:=HC.out wr HBr.out
              by_cases hlt:k<n4
              · obtain⟨p,hp⟩:∃p,x.texts[k]? =some p:=⟨x.texts[k]'(by rw[HL4.out];exact hlt),List.getElem?_eq_getElem _⟩
                as_aux_lemma=>
                 obtain⟨a,cs,ea,hab,hc,hR⟩:=HA4.out.at hp;subst ea;obtain⟨st,rfl,hst⟩:=hR;have hz1:=HZ.out.texts p (qAl hp);have HF:=qAg (qBJ pt x.texts k p hp);have HAL:=qAg (qC0 (g:=shortB) hp);have CA:Hid (∀X,Below W.heap.size W X→X.cell? (a.add k)=some (.string st)):=fun X hb=>(hb.cell (p:=a.add k) qB).trans (qBI (K:=strL.k) rfl (hc 0 _ rfl));clear hc hp;have HST:=qAg hst;obtain⟨ns,hns⟩:∃n,st.size=n:=⟨_,rfl⟩;have HNS:=qAg hns;have HPL:Hid (p.length=ns):=by show p.length=ns;rw[HST.out,qBj,hns]
                 have HSL:Hid ((strB st).length=ns):=by show(strB st).length=ns;rw[qBj,hns]
                 rw[HPL.out] at hz1;clear hst;have k0:0≤(k:Int):=by omega
                 have k1:(k:Int)<(n4:Int):=by omega
                 have ca0:=CA.out wr HBr.out;have hns64:ns<B64:=by unfold B64;omega
                 have hnv:(vb ns).length≤10:=qBK 9 ns qK;have HW:Hid (IntKind.u64.wrap (ns:Int)=(ns:Int)):=by show IntKind.u64.wrap (ns:Int)=_;rw[IntKind.wrap_u64];omega
                 have hql:q.length+(vb ns).length≤140737488355328:=by omega
                 have hql2:q.length+(vb ns).length+ns≤140737488355328:=by omega
                 have HSH:Hid (shortB p=decide (ns≤32)):=by show shortB p=_;unfold shortB;rw[HPL.out]
                 go_upto_region 45 with(fail)
                 go_cut [5] (fun s5 wx=>s5= .bool (B && shortB p)∧wx=wr)
                 case first=>
                  cases B
                  · go_wp2_with fail
                    go_meet
                    exact⟨by simp,rfl⟩
                  go_wp2_with fail
                  go_meet
                  refine⟨?_,rfl⟩;rw[HSH.out,←HNS.out];simp
                  omega
                 case rest=>
                  obtain⟨rfl,rfl⟩:=hcut;have HX6d:=qAg HB.out.drew;have HO6d:Hid (wc.drew.ownsRow V4.heap.size 5 1 u25 q.length (Bs q)):=qA0 HO.out ((qAk _ wc).drew) (qAi _);obtain⟨ok,hok⟩:∃b,(B && shortB p)=b:=⟨_,rfl⟩;rw[hok];have HOK:=qAg hok;clear hok
                  as_aux_lemma=>
                   go_wp2_with fail
                   have SS:Hid (∀w',Below W.heap.size W w'→w'.cell? ⟨w.heap.size,4,none⟩=some (.slice (some a) n4 d4)∧w'.cell? (a.add k)=some (.string st)):=fun w' hb=>⟨(HC.out w' hb).2.2.2.2,CA.out w' hb⟩;have S6:=qAg (SS.out wc.drew (HD4.out _ HX6d.out))
                   go_region_held3 (fun w'=>w'.cell? ⟨w.heap.size,4,none⟩=some (.slice (some a) n4 d4)∧w'.cell? (a.add k)=some (.string st))
                    (first|exact S9.out|exact S8.out|exact S7.out|exact S6.out)
                    (first
                    |(go_at_call 26
                      first|rw[HW.out]|rw[HNS.out,HW.out]
                      refine(qA3 ns _ hns64).mono ?_;rintro e w7 ⟨v7,rfl,hown7,hb7⟩;obtain⟨A7,c7,rfl,-,-,-,hB7⟩:=qAu hown7;have HY7:=qAg hB7;have HB7:=qAg (HX6d.out.trans (hb7.mono HX6d.out.size));have HO7:=qAg (qA0 HO6d.out hb7 (qAi _));have HS7:=qAg HB7.out.size;have S7:=qAg (SS.out w7 (HD4.out _ HB7.out));clear hown7 hb7 hB7)
                    |(with_reducible refine qBV (.tmp 273) (.tmp 281) 62 ?_
                      refine qBC _ rfl (.tmp 273) (.tmp 281) rfl V4.heap.size u25 q.length q rfl HO7.out A7 (vb ns).length c7 (vb ns) rfl rfl _ HY7.out hql HS7.out ?_;intro v8 w8 hown8 hg8 _;have HO8:=qAg hown8;have HB8:=qAg (HB7.out.grown hg8 HS7.out (fun i hi=>(HO7.out.lt i hi).1));have HS8:=qAg HB8.out.size;have S8:=qAg (SS.out w8 (HD4.out _ HB8.out));clear hown8 hg8)
                    |(with_reducible refine qIb (.tmp 282) (.tmp 287) 62 9 ?_
                      refine qDc _ rfl (.tmp 282) (.tmp 287) rfl V4.heap.size v8 (q.length+(vb ns).length) (q++vb ns) rfl HO8.out st rfl (by rw[HSL.out];exact hql2) HS8.out ?_;intro v9 w9 hown9 hg9;have HO9:=qAg hown9;have HB9:=qAg (HB8.out.grown hg9 HS8.out (fun i hi=>(HO8.out.lt i hi).1));have S9:=qAg (SS.out w9 (HD4.out _ HB9.out));clear hown9 hg9))
                   all_goals
                    go_wp2_with fail
                    refine⟨⟨k+1,q++vb ns++strB st,ok,by omega,by simp,rfl,?_,?_,?_,?_,HB9.out⟩,by simp[intOf];omega⟩
                    · rw[HAL.out,←Bool.and_assoc,←HBe.out,HOK.out]
                    · rw[HF.out,HQ.out,pt,HPL.out,HST.out]
                      simp only[List.append_assoc]
                    · rw[List.length_append,List.length_append,HSL.out];omega
                    · rw[List.length_append,List.length_append];exact HO9.out
              · obtain rfl:k=n4:=by omega
                have HQ4:Hid (q=lB pt x.texts):=by have:=HQ.out;rw[qBU HL4.out] at this;show q=_;rw[this,lB,HL4.out]
                have HFB:Hid (fitB x=B):=by
                 have:=HBe.out;rw[qBU HL4.out] at this
                 show fitB x=B
                 rw[HFA.out,←HR.out,HR1.out.1,HR1.out.2,←HR2.out,this];simp
                have HW4:=qAg HB.out;have HW3:=qAg (HV4.out.trans (HB.out.mono HV4.out.size));have HW2:=qAg (HV3.out.trans (HW3.out.mono HV3.out.size));have HW1:=qAg (HV2.out.trans (HW2.out.mono HV2.out.size));obtain⟨B0,f0,rfl,y0⟩:=Yb.of HO0.out;obtain⟨B1,f1,rfl,y1⟩:=Yb.of HO1'.out;obtain⟨B2,f2,rfl,y2⟩:=Yb.of HO2'.out;obtain⟨B3,f3,rfl,y3⟩:=Yb.of HO3'.out;obtain⟨B4,f4,rfl,y4⟩:=Yb.of HO.out;have Y0:=qAg (y0.below HW1.out);have Y1:=qAg (y1.below HW2.out);have Y2:=qAg (y2.below HW3.out);have Y3:=qAg (y3.below HW4.out);have Y4:=qAg y4;have hl1:q1.length≤4010:=by
                 have h1:=List.all_eq_true.1 HR1.out.2;have:=qBb fnB x.funcs 500 (fun f hf=>qHS (by omega) (h1 f hf)) (by rw[HL1.out];exact h641);rw[←HQ1.out,HL1.out] at this
                 omega
                have HJ:Hid ((joinB [q0,q1,q2,q3,q]).length≤1000000):=by
                 have:=qDT [q0,q1,q2,q3,q] 96250 (by unfold B64;omega) (by simp;unfold B64;omega) (fun j hj=>by
                  match j,hj with
                  |0,_=>simp;omega
                  |1,_=>simp;omega
                  |2,_=>simp;omega
                  |3,_=>simp;omega
                  |4,_=>simp;omega
                  |j+5,hj=>exact absurd hj (by simp))
                 simp only[List.length_cons,List.length_nil] at this
                 show(joinB _).length≤_
                 omega
                have HE:Hid (B=true→joinB [q0,q1,q2,q3,q]=modB x):=fun hf=>by
                 have h1:=HFB.out;rw[hf,HFA.out,Bool.and_eq_true,Bool.and_eq_true] at h1;rw[HQ0.out HR1.out.1,HQ1.out,HQ2.out (by rw[HR2.out];exact h1.1.2),HQ3.out,HQ4.out]
                 rfl
                clear y0 y1 y2 y3 y4;have HBa:=qAg ((HBr.out.alloc hsr (.cells #[.slice B0 q0.length f0,.slice B1 q1.length f1,.slice B2 q2.length f2,.slice B3 q3.length f3,.slice B4 q.length f4] 62)))
                go_wp2_with fail
                refine(qFa _ _ _ [q0,q1,q2,q3,q] _ rfl (qFV wr B0 B1 B2 B3 B4 f0 f1 f2 f3 f4 q0 q1 q2 q3 q Y0.out Y1.out Y2.out Y3.out Y4.out) HJ.out).mono ?_;rintro e w7 ⟨v7,rfl,hown7,hb7⟩;have HO7:=qAg hown7;have HB7:=qAg (HFin.out _ (HBa.out.trans (hb7.mono HBa.out.size)));have HSZ:Hid (w.heap.size≤(wr.alloc (.cells #[.slice B0 q0.length f0,.slice B1 q1.length f1,.slice B2 q2.length f2,.slice B3 q3.length f3,.slice B4 q.length f4] 62)).heap.size):=by show w.heap.size≤_;simp;omega
                clear hown7 hb7
                cases B
                · go_wp2_with fail
                  go_ret2;obtain⟨A7,c7,e7,-⟩:=qAu HO7.out;exact⟨HB7.out,.inr ⟨HFB.out,A7,_,c7,by rw[e7];rfl⟩⟩
                · go_wp2_with fail
                  go_ret2;have ho:=HO7.out;rw[HE.out (by simp)] at ho;exact⟨HB7.out,.inl ⟨HFB.out,v7,rfl,qBQ ho HSZ.out⟩⟩
theorem qIt (cs:List Value) (x:Mod) (w:World) (h:modL.R (·<w.heap.size) w cs x) (hz:Small x):Calls Tryz.prog 14 #[vAgg cs] w (RMod x w):=by
 by_cases hc:(x.recs.length≤8∧1≤x.funcs.length∧x.funcs.length≤8∧x.imps.length≤8∧x.ints.length≤16∧x.texts.length≤16)
 · exact qIr cs x w h hz hc
 · exact qIs cs x w h hc
end Go.Proofs.YtelceoecekfamaaGreat
