/-
Rck
-/
import Derived.Test.YtelceoecekfamaaGreatQ07
import Derived.Test.YtelceoecekfamaaGreatQ09
import Derived.Lib.QuietBelow
import Derived.BigQuiet
set_option linter.unusedSimpArgs false
set_option linter.unusedVariables false
set_option maxRecDepth 100000
set_option maxHeartbeats 8000000
namespace Go.Proofs.YtelceoecekfamaaGreat
open Go.RowKit
theorem qJs {α:Type} {g:α→Bool} {xs:List α} {k:Nat} {x:α} (hx:xs[k]? =some x):(xs.take (k+1)).any g=((xs.take k).any g || g x):=by
 obtain⟨hk,rfl⟩:=qAj.1 hx;rw[qAp hk,List.any_append];simp
theorem qDx (cs:List Value) (x:Mod) (w:World) (h:modL.R (·<w.heap.size) w cs x) (hz:Small x):Calls Tryz.prog 7 #[vAgg cs] w fun e w'=>e= .returned (.int .i64 (checkN x))∧Below w.heap.size w w':=by
 have TE:Hid (∀w1,Below w.heap.size w w1→Calls Tryz.prog 14 #[vAgg cs] w1 (RMod x w1)):=fun w1 hb=>qIt cs x w1 (qBS h hb) hz;obtain⟨_,_,_,_,_,rfl,⟨A0,d0,e0,l0,m0,s0⟩,⟨A1,d1,e1,l1,m1,s1⟩,⟨A2,d2,e2,l2,m2,s2⟩,⟨A3,d3,e3,-⟩,⟨A4,d4,e4,-⟩⟩:=h;simp only[List.cons.injEq,and_true] at e0 e1 e2 e3 e4;subst e0 e1 e2 e3 e4;refine z9 ?_;intro n0 h0 n1 h1 n2 h2;refine jx ?_;intro n3 h3 n4 h4;rw[h0,h1,h2,h3,h4] at TE⊢;have TE2:Hid (∀w1,Below w.heap.size w w1→Calls Tryz.prog 14 #[.agg #[.slice A0 n0 d0,.slice A1 n1 d1,.slice A2 n2 d2,.slice A3 n3 d3,.slice A4 n4 d4]] w1 (RMod x w1)):=TE.out;clear TE
 show Calls Tryz.prog 7 #[.agg #[.slice A0 n0 d0,.slice A1 n1 d1,.slice A2 n2 d2,.slice A3 n3 d3,.slice A4 n4 d4]] w _
 refine jW ?_;intro HB0;refine zy ?_;intro HC0
 cases hf:fitB x
 · have HF:=qAg hf
   have HN:=qAg (qCD hf);generalize checkN x=cn at*;clear hf s0 s1 s2 h0 h1 h2 h3 h4 hz l0 l1 l2 m0 m1 m2
   go_enter Tryz.func7,Tryz.ntmps7
   go_wp2_with (first
    |(go_at_call 14
      refine(TE2.out _ (HB0.out _)).mono ?_;rintro e w1 ⟨hb1,⟨h1,-⟩|⟨-,A9,n9,c9,rfl⟩⟩
      · rw[HF.out] at h1
        cases h1
      refine jU ?_;intro HB1;clear hb1))
   go_ret;exact⟨by rw[HN.out];rfl,HB1.out⟩
 have HF:=qAg hf;have hF:=qA1.1 hf;have hn0:n0≤8:=by have:=hF.r8;omega
 have hn1:n1≤8:=by have:=hF.f8;omega
 have hn2:n2≤8:=by have:=hF.i8;omega
 have HFn:Hid (∀p∈x.funcs,fnOk n0 p=true):=fun p hp=>by rw[←h0];exact hF.funcs p hp
 have HIm:Hid (∀p∈x.imps,impOk n0 p=true):=fun p hp=>by rw[←h0];exact hF.imps p hp
 have HBD:Hid (badM x=true→checkN x=1):=fun h=>qEI hf h;have HOK:Hid (badM x=false→checkN x=0):=fun h=>qIL hf h;generalize hcn:checkN x=cn at*;have HL0:=qAg h0;have HL1:=qAg h1;have HL2:=qAg h2;have HL3:=qAg h3;have HL4:=qAg h4;have HS0:=qAg s0;have HS1:=qAg s1;have HS2:=qAg s2;clear hcn hf hF s0 s1 s2 h0 h1 h2 h3 h4 hz l0 l1 l2 m0 m1 m2
 go_enter Tryz.func7,Tryz.ntmps7
 go_wp2_with (first
  |(go_at_call 14
    refine(TE2.out _ (HB0.out _)).mono ?_;rintro e W ⟨hb1,⟨-,u,rfl,hown⟩|⟨h1,-⟩⟩;rotate_left
    · rw[HF.out] at h1
      cases h1
    obtain⟨A5,c5,rfl,-,-,-,-⟩:=qAu hown;refine jU ?_;intro HB1;have HC1:=qAg (HC0.out.below hb1 (by simp));have hs1:w.heap.size<W.heap.size:=qR;clear hb1 hown))
 have HZ:Hid (∀wr,Below W.heap.size W wr→C5 w.heap.size (.slice A0 n0 d0) (.slice A1 n1 d1) (.slice A2 n2 d2) (.slice A3 n3 d3) (.slice A4 n4 d4) wr):=fun wr hb=>HC1.out.below hb hs1;have HFin:Hid (∀wr,Below W.heap.size W wr→Below w.heap.size w wr):=fun wr hb=>HB1.out.trans (hb.mono HB1.out.size);have HA0:Hid (∀wr,Below W.heap.size W wr→Sq tysL (·<wr.heap.size) wr A0 x.recs):=fun wr hb=>(HS0.out.below (HFin.out wr hb) (qAi _)).wide (T:=(·<wr.heap.size)) fun b hb1=>qAh hb1 (HFin.out wr hb).size;have HA1:=qAg ((HS1.out.below HB1.out (qAi _)).wide (T:=(·<W.heap.size)) fun b hb=>qAh hb HB1.out.size);have HA2:=qAg ((HS2.out.below HB1.out (qAi _)).wide (T:=(·<W.heap.size)) fun b hb=>qAh hb HB1.out.size);clear HS0 HS1 HS2 HB0 HC0 TE2
 go_loopw [5] (fun i wr=>∃k:Nat,k≤n1∧i= .int .i64 (k:Nat)∧(x.funcs.take k).any (badFn x)=false∧Below W.heap.size W wr) (fun i _=>n1-(intOf i).toNat)
 case atStart=>exact⟨0,qAq _,rfl,by simp,qAk _ _⟩
 case round=>
  obtain⟨k,hk,rfl,hall,hbel⟩:=hrel;have HE:=qAg hall;refine jc ?_;intro HB hs;clear hall hbel
  by_cases hlt:k<n1
  · skip
    refine qAP ?_;intro p hp;have HMem:=qAg (qAl hp);obtain⟨a,cs,ea,hab,hc,hR⟩:=HA1.out.at hp;have HP:=qAg hp;clear hp;subst ea;obtain⟨_,_,_,rfl,-,-,⟨P0,c0,e4,-,-,-⟩,⟨P1,c1,e5,-,-,t1⟩,⟨P2,c2,e6,-,-,t2⟩⟩:=hR;simp only[List.cons.injEq,and_true] at e4 e5 e6;subst e4 e5 e6;obtain⟨f1,f2,f3,f4,-,-,-,f8⟩:=qCv (HFn.out p HMem.out);have HGood:=qAg f8;clear f8;obtain⟨ua,g0⟩:∃n,p.args.length=n:=⟨_,rfl⟩;obtain⟨ul,g1⟩:∃n,p.locs.length=n:=⟨_,rfl⟩;obtain⟨uc,g2⟩:∃n,p.code.length=n:=⟨_,rfl⟩;rw[g0] at f1 f2 hc;rw[g1] at f2 hc;rw[g2] at f3 f4 hc;have G0:=qAg g0;have G1:=qAg g1;have G2:=qAg g2;clear g0 g1 g2;have ca0:=(HB.out.cell (p:=a.add (k*5)) qB).trans (hc 0 _ rfl);have ca1:=(HB.out.cell (p:=a.add (k*5+1)) qB).trans (hc 1 _ rfl);rw[qAm a (k*5) 1 (by omega)] at ca1;have ca2:=(HB.out.cell (p:=a.add (k*5+2)) qB).trans (hc 2 _ rfl);rw[qAm a (k*5) 2 (by omega)] at ca2;have ca3:=(HB.out.cell (p:=a.add (k*5+3)) qB).trans (hc 3 _ rfl);rw[qAm a (k*5) 3 (by omega)] at ca3;have ca4:=(HB.out.cell (p:=a.add (k*5+4)) qB).trans (hc 4 _ rfl);rw[qAm a (k*5) 4 (by omega)] at ca4;clear hc;refine qAS ?_;intro z0 z1 z2 z3 z4 k0';generalize p.ret.1=r1 at*;generalize p.ret.2=r2 at*
    go_wp2_with fail
    refine qAs fun V hV=> ?_;have HBV:Hid (Below W.heap.size W V):=by show Below _ _ _;rw[hV];exact HB.out.alloc hs _
    have HCV:Hid (C5 wr.heap.size (.slice P0 ua c0) (.int .i64 r1) (.int .i64 r2) (.slice P1 ul c1) (.slice P2 uc c2) V):=by show C5 _ _ _ _ _ _ _;rw[hV];simp[C5,go_sem]
    have hzV:wr.heap.size<V.heap.size:=by rw[hV];simp
    clear hV ca0 ca1 ca2 ca3 ca4 z0 z1 z2 z3 z4;have HQ1:=qAg ((t1.below HBV.out (qAi _)).wide (T:=(·<V.heap.size)) fun b hb=>qAh hb HBV.out.size);have HQ2:=qAg ((t2.below HBV.out (qAi _)).wide (T:=(·<V.heap.size)) fun b hb=>qAh hb HBV.out.size);clear t1 t2;have HKK:Hid (∀wv,Below V.heap.size V wv→Below W.heap.size W wv∧C5 wr.heap.size (.slice P0 ua c0) (.int .i64 r1) (.int .i64 r2) (.slice P1 ul c1) (.slice P2 uc c2) wv):=fun wv hb=>⟨HBV.out.trans (hb.mono HBV.out.size),HCV.out.below hb hzV⟩;clear HCV
    go_loopw [7] (fun i wv=>∃j:Nat,j≤uc∧i= .int .i64 (j:Nat)∧(p.code.take j).any (fun t=> !namedB x p t)=false∧Below V.heap.size V wv) (fun i _=>uc-(intOf i).toNat)
    case atStart=>exact⟨0,qAq _,rfl,by simp,qAk _ _⟩
    case round=>
     obtain⟨j,hj,rfl,hje,hvb⟩:=hrel;have HJE:=qAg hje;have HV:=qAg hvb;have hv:=hvb.size;clear hje hvb
     by_cases hjl:j<uc
     · skip
       obtain⟨⟨o,ia,ib⟩,hi⟩:∃ii,p.code[j]? =some ii:=⟨p.code[j]'(by rw[G2.out];exact hjl),List.getElem?_eq_getElem _⟩;obtain⟨a',cs',ea',ha'b,hc',hR'⟩:=HQ2.out.at hi;have HI:=qAg hi;obtain⟨o1,a1,b1,e1,e2,e3,q1,q2,q3⟩:=qA6 (op:=o) (a:=ia) (b:=ib) (HGood.out _ (qAl hi));clear hi;subst ea';obtain⟨rfl,-,-,-⟩:=hR';have ia0:=(HV.out.cell (p:=a'.add (j*3)) ze).trans (hc' 0 _ rfl);have ia1:=(HV.out.cell (p:=a'.add (j*3+1)) ze).trans (hc' 1 _ rfl);rw[qAm a' (j*3) 1 (by omega)] at ia1;have ia2:=(HV.out.cell (p:=a'.add (j*3+2)) ze).trans (hc' 2 _ rfl);rw[qAm a' (j*3) 2 (by omega)] at ia2;simp only at ia0 ia1 ia2;clear hc';have TN:Hid (∀w2,Below W.heap.size W w2→Calls Tryz.prog 15 #[.agg #[.slice A0 n0 d0,.slice (some a) n1 d1,.slice A2 n2 d2,.slice A3 n3 d3,.slice A4 n4 d4],.agg #[.slice P0 ua c0,.int .i64 r1,.int .i64 r2,.slice P1 ul c1,.slice (some a') uc c2],.agg #[.int .i64 o,.int .i64 ia,.int .i64 ib]] w2 (Tells (namedB x p (o,ia,ib)) w2)):=fun w2 hb=>
        qH0 A0 (some a) A2 A3 A4 P0 P1 (some a') n0 n1 n2 n3 n4 d0 d1 d2 d3 d4 ua ul uc c0 c1 c2 r1 r2 x p o ia ib w2 HL0.out HL1.out HL2.out HL3.out HL4.out G0.out G1.out G2.out (by omega) (by omega) (by omega) (by omega) (by omega) (HA0.out w2 hb)
       obtain⟨hBv,y0,y1,y2,y3,y4⟩:=HKK.out wr HV.out;have HBv:=qAg hBv;have hsv:=hBv.size;obtain⟨z0,z1,z2,z3,z4⟩:=HZ.out wr hBv;have j0':0≤(j:Int):=by omega
       have HBR:Hid (∀dq osq,Below W.heap.size W (Go.Sort.grow (redrawn wr dq) osq)):=fun dq osq=>HBv.out.trans ((below_regrown wr dq osq).mono HBv.out.size);have HVR:Hid (∀dq osq,Below V.heap.size V (Go.Sort.grow (redrawn wr dq) osq)):=fun dq osq=>HV.out.trans ((below_regrown wr dq osq).mono HV.out.size);have z0r:=cell_regrown z0;have z1r:=cell_regrown z1;have z2r:=cell_regrown z2;have z3r:=cell_regrown z3;have z4r:=cell_regrown z4;have y0r:=cell_regrown y0;have y1r:=cell_regrown y1;have y2r:=cell_regrown y2;have y3r:=cell_regrown y3;have y4r:=cell_regrown y4;have ia0r:=cell_regrown ia0;have ia1r:=cell_regrown ia1;have ia2r:=cell_regrown ia2;clear hBv e1 e2 e3 q1 q2 q3
       cases hg:namedB x p (o,ia,ib)
       all_goals
        rw[hg] at TN;have HG:=qAg hg;clear hg
        go_wp2_with fail
        refine wp_region_quiet_below qV qV ?_
        repeat(quiet_step (first|with_reducible exact Calls.regrown_of (TN.out _ (HBR.out _ _))))
        refine wpQuiet_nil ?_;intro _ hw';obtain⟨⟨dq,osq⟩,hw''⟩:=hw';subst hw'';have HX2:=qAg (HVR.out dq osq)
        go_wp2_with fail
       · skip
         go_ret;refine⟨?_,HFin.out _ (HKK.out _ HX2.out).1⟩;rw[HBD.out (qDM HMem.out (qGC (qAl HI.out) HG.out))]
         rfl
       · skip
         refine⟨⟨j+1,by omega,by simp,qCV HJE.out HI.out (by rw[HG.out];rfl),HX2.out⟩,by simp[intOf];omega⟩
     · obtain rfl:j=uc:=by omega
       have HCode:=qAg (qCW HJE.out G2.out);obtain⟨hBv,y0,y1,y2,y3,y4⟩:=HKK.out wr HV.out;have j0':0≤(j:Int):=by omega
       clear hBv
       go_wp2_with fail
       go_loopw [8] (fun i wv=>∃j:Nat,j≤ul∧i= .int .i64 (j:Nat)∧(p.locs.take j).any hanB=false∧Below V.heap.size V wv) (fun i _=>ul-(intOf i).toNat)
       case atStart=>exact⟨0,qAq _,rfl,by simp,HV.out⟩
       case round=>
        obtain⟨i,hi',rfl,hie,hvb⟩:=hrel;clear HV HJE hv y0 y1 y2 y3 y4;have HIE:=qAg hie;have HV:=qAg hvb;have hv:=hvb.size;clear hie hvb;obtain⟨hBv,y0,y1,y2,y3,y4⟩:=HKK.out wr HV.out;have HBv:=qAg hBv;clear hBv;have i0':0≤(i:Int):=by omega
        by_cases hil:i<ul
        · skip
          obtain⟨⟨q,r⟩,hi⟩:∃ii,p.locs[i]? =some ii:=⟨p.locs[i]'(by rw[G1.out];exact hil),List.getElem?_eq_getElem _⟩;obtain⟨a',cs',ea',ha'b,hc',hR'⟩:=HQ1.out.at hi;have HI:=qAg hi;clear hi;subst ea';obtain⟨rfl,-,-⟩:=hR';have ia0:=(HV.out.cell (p:=a'.add (i*2)) ze).trans (hc' 0 _ rfl);simp only at ia0;clear hc'
          by_cases hq:q=5
          · have HG:Hid (hanB (q,r)=true):=by show hanB _=_;simp[hanB,hq]
            have hq2:(q==5)=true:=by simpa using hq
            clear hq
            go_wp2_with fail
            go_ret;refine⟨?_,HFin.out _ HBv.out⟩;rw[HBD.out (qDM HMem.out (bad_loc (qAl HI.out) HG.out))]
            rfl
          · have HG:Hid (hanB (q,r)=false):=by show hanB _=_;simp[hanB,hq]
            have hq2:(q==5)=false:=by simpa using hq
            clear hq
            go_wp2_with fail
            refine⟨⟨i+1,by omega,by simp,qCV HIE.out HI.out HG.out,HV.out⟩,by simp[intOf];omega⟩
        · obtain rfl:i=ul:=by omega
          have HLoc:=qAg (qCW HIE.out G1.out)
          go_wp2_with fail
          refine⟨⟨k+1,by omega,by simp,qCV HE.out HP.out (by rw[badFn,HLoc.out,HCode.out];rfl),HBv.out⟩,by simp[intOf];omega⟩
  · obtain rfl:k=n1:=by omega
    have HFs:=qAg (qCW HE.out HL1.out);refine qAS ?_;intro z0 z1 z2 z3 z4 k0'
    go_wp2_with fail
    go_loopw [9] (fun i wr=>∃k:Nat,k≤n2∧i= .int .i64 (k:Nat)∧(x.imps.take k).any badImp=false∧Below W.heap.size W wr) (fun i _=>n2-(intOf i).toNat)
    case atStart=>exact⟨0,qAq _,rfl,by simp,HB.out⟩
    case round=>
     obtain⟨k,hk,rfl,hall,hbel⟩:=hrel;clear HE HB hs z0 z1 z2 z3 z4;have HE:=qAg hall;refine jc ?_;intro HB hs;clear hall hbel;obtain⟨z0,z1,z2,z3,z4⟩:=HZ.out wr HB.out;have k1':0≤(k:Int):=by omega
     by_cases hlt:k<n2
     · skip
       refine qAR ?_;intro p hp;have HMem:=qAg (qAl hp);obtain⟨a,cs,ea,hab,hc,hR⟩:=HA2.out.at hp;have HP:=qAg hp;clear hp;subst ea;obtain⟨_,rfl,-,-,⟨P0,c0,e4,-,-,t0⟩⟩:=hR;simp only[List.cons.injEq,and_true] at e4;subst e4;obtain⟨f1,-,-⟩:=qDH (HIm.out p HMem.out);obtain⟨ua,g0⟩:∃n,p.args.length=n:=⟨_,rfl⟩;rw[g0] at f1 hc;have G0:=qAg g0;clear g0;have HCA:Hid (∀wv,Below W.heap.size W wv→wv.cell? (a.add (k*3))=some (.slice P0 ua c0)∧wv.cell? ⟨(a.add (k*3)).block,(a.add (k*3)).off+1,none⟩=some (.int .i64 p.ret.1)∧wv.cell? ⟨(a.add (k*3)).block,(a.add (k*3)).off+2,none⟩=some (.int .i64 p.ret.2)):=fun wv hb=>by
        have ca0:=(hb.cell (p:=a.add (k*3)) qB).trans (hc 0 _ rfl);have ca1:=(hb.cell (p:=a.add (k*3+1)) qB).trans (hc 1 _ rfl);rw[qAm a (k*3) 1 (by omega)] at ca1;have ca2:=(hb.cell (p:=a.add (k*3+2)) qB).trans (hc 2 _ rfl);rw[qAm a (k*3) 2 (by omega)] at ca2;exact⟨ca0,ca1,ca2⟩
       clear hc;have HQ0:=qAg t0;clear t0;obtain⟨ca0,ca1,ca2⟩:=HCA.out wr HB.out;have TH:Hid (∀w2,Calls Tryz.prog 16 #[.agg #[.int .i64 p.ret.1,.int .i64 p.ret.2]] w2 (Tells (hostB p.ret) w2)):=fun w2=>qF0 p.ret w2;obtain⟨hr,ehr⟩:∃b,hostB p.ret=b:=⟨_,rfl⟩;rw[ehr] at TH;have HHR:=qAg ehr;clear ehr;generalize p.ret.1=r1 at*;generalize p.ret.2=r2 at*
       go_wp2_with (first
        |(go_at_call 16
          refine(TH.out _).mono ?_;rintro e w2 ⟨rfl,hb2⟩;have HB2:=qAg (HB.out.trans (hb2.mono hs));clear hb2))
       go_loopw [10,11] (fun ok i wv=>∃j:Nat,j≤ua∧i= .int .i64 (j:Nat)∧∃b:Bool,ok= .bool b∧b= !((p.args.take j).any (fun t=> !hostB t) || !hr)∧Below W.heap.size W wv) (fun _ i _=>ua-(intOf i).toNat)
       case atStart=>exact⟨0,qAq _,rfl,hr,rfl,by simp,HB2.out⟩
       case round=>
        obtain⟨j,hj,rfl,b,rfl,hbv,hvb⟩:=hrel;clear ca0 ca1 ca2 z0 z1 z2 z3 z4 HB2;have HBv:=qAg hbv;have HV:=qAg hvb;have hv:=hvb.size;clear hbv hvb;obtain⟨ca0,ca1,ca2⟩:=HCA.out wr HV.out;obtain⟨z0,z1,z2,z3,z4⟩:=HZ.out wr HV.out;have j0':0≤(j:Int):=by omega
        by_cases hjl:j<ua
        · skip
          obtain⟨y,hi⟩:∃ii,p.args[j]? =some ii:=⟨p.args[j]'(by rw[G0.out];exact hjl),List.getElem?_eq_getElem _⟩;obtain⟨a',cs',ea',ha'b,hc',hR'⟩:=HQ0.out.at hi;have HI:=qAg hi;clear hi;subst ea';obtain⟨rfl,-,-⟩:=hR';have ia0:=(HV.out.cell (p:=a'.add (j*2)) ze).trans (hc' 0 _ rfl);have ia1:=(HV.out.cell (p:=a'.add (j*2+1)) ze).trans (hc' 1 _ rfl);rw[qAm a' (j*2) 1 (by omega)] at ia1;clear hc';have TH2:Hid (∀w2,Calls Tryz.prog 16 #[.agg #[.int .i64 y.1,.int .i64 y.2]] w2 (Tells (hostB y) w2)):=fun w2=>qF0 y w2;have HST:Hid ((p.args.take (j+1)).any (fun t=> !hostB t)=((p.args.take j).any (fun t=> !hostB t) || !hostB y)):=qJs HI.out;generalize hostB y=hy at*;generalize y.1=r3 at*;generalize y.2=r4 at*
          cases b
          · go_wp2_with fail
            refine⟨⟨j+1,by omega,by simp,false,rfl,?_,HV.out⟩,by simp[intOf];omega⟩;rw[HST.out];have:=HBv.out
            cases hy<;>simp_all
          · go_wp2_with (first
             |(go_at_call 16
               refine(TH2.out _).mono ?_;rintro e w2 ⟨rfl,hb2⟩;have HB3:=qAg (HV.out.trans (hb2.mono hv));clear hb2))
            refine⟨⟨j+1,by omega,by simp,hy,rfl,?_,HB3.out⟩,by simp[intOf];omega⟩;rw[HST.out];have:=HBv.out
            cases hy<;>simp_all
        · obtain rfl:j=ua:=by omega
          have HBI:Hid (badImp p= !b):=by
           show badImp p= !b
           have e:=HBv.out;rw[qAn (by rw[G0.out];exact qAi _)] at e;rw[badImp,HHR.out,e,Bool.not_not]
          cases b
          · go_wp2_with fail
            go_ret;refine⟨?_,HFin.out _ HV.out⟩;rw[HBD.out (qG8 HMem.out HBI.out)]
            rfl
          · go_wp2_with fail
            refine⟨⟨k+1,by omega,by simp,qCV HE.out HP.out HBI.out,HV.out⟩,by simp[intOf];omega⟩
     · obtain rfl:k=n2:=by omega
       have HIs:=qAg (qCW HE.out HL2.out)
       go_wp2_with fail
       go_ret;refine⟨?_,HFin.out _ HB.out⟩;rw[HOK.out (by rw[badM,HFs.out,HIs.out];rfl)]
       rfl
end Go.Proofs.YtelceoecekfamaaGreat
