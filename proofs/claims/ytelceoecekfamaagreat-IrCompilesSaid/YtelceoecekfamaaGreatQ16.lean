/-
Ffl Irc Ird Irg
-/
import Derived.Test.YtelceoecekfamaaGreatQ11
import Derived.Test.YtelceoecekfamaaGreatQ12
import Derived.Test.YtelceoecekfamaaGreatQ15
import Derived.OwnWalk
import Derived.Deep.RegionHeld3
import Derived.Deep.MidRow
set_option linter.unusedSimpArgs false
set_option linter.unusedVariables false
set_option maxRecDepth 100000
set_option maxHeartbeats 4000000
namespace Go.Proofs.YtelceoecekfamaaGreat
open Go.RowKit
variable {e:Ending}{w w':World}
theorem qG {P:Prop} (h:P:=by
 rw[←hDD] at FA2;clear hDD
 go_wp2_with fail
 go_region_held3 (fun v=>v.cell? ⟨w.heap.size,0,none⟩=some (.slice A0 n0' d0)∧v.cell? ⟨w.heap.size,1,none⟩=some (.slice A1 n1' d1)∧v.cell? ⟨w.heap.size,2,none⟩=some (.slice A2 n2' d2)∧v.cell? ⟨w.heap.size,3,none⟩=some (.slice A3 n3' d3)∧v.cell? ⟨w.heap.size,4,none⟩=some (.slice A4 n4' d4))
  (first|exact SS5.out|exact HCV.out _ HBf.out|exact HCV.out _ HBf.out.drew)
  (first
  |(go_at_call 46
    refine(FA2.out _ HBf.out.drew).mono ?_;intro e w5 hq;obtain⟨hb5,v5,u5,rfl,ho5,hu5,h64⟩:=qEC hq;have HB5:Hid (Below W.heap.size W w5):=(by show Below _ _ _;exact HBf.out.drew.trans (hb5.mono (by simpa using HBf.out.size)));have SS5:=qAg (HCV.out _ HB5.out);obtain⟨A5,c5,rfl,-,hle5,-,hsq5⟩:=qCl ho5 h64;obtain⟨B5,d5,rfl,-,-,hnu5⟩:=qDz hu5;clear hb5 ho5 hu5 h64 hsq5 hnu5 hq))
 by_cases hlt:q<n1
 · have hne:(er==0)=false:=by
    have:=HC2.out q hlt;rw[HQ.out,HFE.out] at this;simpa using this
   have hqk:((q:Int)==(k:Int))=false:=by simp;omega
   go_wp2_with fail
   exact⟨⟨q+1,by omega,by simp,HB5.out⟩,by simp[intOf];omega⟩
 · obtain rfl:q=n1:=by omega
   have hfe:=HC3.out;rw[HQ.out,HFE.out] at hfe;simp only[Prod.mk.injEq] at hfe;obtain⟨rfl,rfl,rfl⟩:=hfe;have h4:=HC4.out;rw[h4] at*
   go_wp2_with fail
   go_ret2;exact⟨rfl,HBW.out.trans (HB5.out.mono HBW.out.size)⟩):P:=h
theorem qEq {K:Nat} {ins outs:List Typ} (h:Chgs K ins outs w e w') (hK:K≤w.heap.size):Below w.heap.size w w'∧∃A c B d,e= .returned (.agg #[.slice A ins.length c,.slice B outs.length d])∧Sq typL (·<w'.heap.size) w' A ins∧Sq typL (·<w'.heap.size) w' B outs∧outs.length≤d∧d≤maxLen:=by
 obtain⟨hb,A,n,c,B,m,d,rfl,⟨A2,c2,e2,-,-,s2⟩,⟨B2,d2,e3,h3,h4,s3⟩⟩:=h;simp only[List.cons.injEq,Value.slice.injEq,and_true] at e2 e3;obtain⟨rfl,rfl,rfl⟩:=e2;obtain⟨rfl,rfl,rfl⟩:=e3;have hz:=hb.size;exact⟨hb,_,_,_,_,rfl,s2.wide fun b hb=>by rcases hb with hb|hb<;>omega,s3.wide fun b hb=>by rcases hb with hb|hb<;>omega,h3,h4⟩
theorem qGn {r:Option (List Typ)} (hr:r=none) (h:Moved r w e w'):e= .returned (.tuple #[.slice none 0 0,.bool false])∧Below w.heap.size w w':=by
 obtain⟨hb,⟨-,he⟩|⟨t,v,ht,-⟩⟩:=h
 · exact⟨he,hb⟩
 · rw[hr] at ht;cases ht
theorem qGm {r:Option (List Typ)} {t:List Typ} (hr:r=some t) (h:Moved r w e w'):∃v,e= .returned (.tuple #[v,.bool true])∧w'.ownsRow w.heap.size 41 2 v t.length (T2 t)∧Below w.heap.size w w':=by
 obtain⟨hb,⟨hn,-⟩|⟨t',v,ht,he,ho⟩⟩:=h
 · rw[hr] at hn;cases hn
 · rw[hr] at ht
   injection ht with ht;subst ht;exact⟨v,he,ho,hb⟩
theorem movB_64 {s i o t:List Typ} (h:movB s i o=some t) (hs:A64 s) (ho:A64 o):A64 t:=by
 unfold movB at h;split at h
 · injection h with h
   subst h;exact(hs.take _).app ho
 · cases h
theorem flow_at (cs:List Value) (x:Mod) (j p:Nat) (D:Option Addr) (k g:Nat) (ts:List Typ) (w:World) (h:modL.R (·<w.heap.size) w cs x) (fn:Fn) (o ia ib:Int) (hc:checkN x=0) (hfn:x.funcs[j]? =some fn) (hin:fn.code[p]? =some (o,ia,ib)) (hk:ts.length=k) (sk:Sq typL (·<w.heap.size) w D ts) (bk:k≤1000) (bg:k≤g) (bg2:g≤9223372036854775807) (hnil:D=none→g=0):
 Calls Tryz.prog 46 #[vAgg cs,.int .i64 (j:Int),.int .i64 (p:Int),.slice D k g] w (Flows (flowB x (j:Int) (p:Int) ts) w):=by
 obtain⟨q1,q2,q3,q4⟩:=qBR hc (qAl hfn);obtain⟨hgood,hnam⟩:=q4 _ (qAl hin);have hpl:=(qAj.1 hin).1;obtain⟨o1,x1,y1,eo,ex,ey,-,hx1,hy1,-,-,-⟩:=qA6 (op:=o) (a:=ia) (b:=ib) hgood;have h0a:0≤ia:=by omega
 have HV:Hid (flowB x (j:Int) (p:Int) ts=(match movB ts (chgB x fn (o,ia,ib) ts).1 (chgB x fn (o,ia,ib) ts).2 with|none=>(4,[],[])|some t=>if ((fn.code.length:Nat):Int)∈follB (o,ia,ib) (p:Int) then (1,[],[]) else (0,t,follB (o,ia,ib) (p:Int)))):=by
  show flowB _ _ _ _=_
  rw[qEE hc hfn hin,ins_chg h0a hnam,qHz hnam hpl]
  cases movB ts (chgB x fn (o,ia,ib) ts).1 (chgB x fn (o,ia,ib) ts).2 with
  |none=>rfl
  |some t=>by_cases hm:((fn.code.length:Nat):Int)∈follB (o,ia,ib) (p:Int)<;>simp[hm]
 obtain⟨hsh1,hsh2⟩:=qHV (f:=fn) (i:=(o,ia,ib)) (s:=ts) hc;have HFit:=qAg (qA1.1 (qAw hc));refine jO ?_;intro TE;obtain⟨_,_,_,_,_,rfl,⟨A0,d0,e0,l0,m0,s0⟩,⟨A1,d1,e1,l1,m1,s1⟩,⟨A2,d2,e2,l2,m2,s2⟩,⟨A3,d3,e3,-⟩,⟨A4,d4,e4,-⟩⟩:=h;simp only[List.cons.injEq,and_true] at e0 e1 e2 e3 e4;subst e0 e1 e2 e3 e4;refine z9 ?_;intro n0 h0 n1 h1 n2 h2;rw[h0,h1,h2] at TE⊢;generalize x.ints.length=n3 at*;generalize x.texts.length=n4 at*;refine jK ?_;intro TE2;clear TE
 show Calls Tryz.prog 46 #[.agg #[.slice A0 n0 d0,.slice A1 n1 d1,.slice A2 n2 d2,.slice A3 n3 d3,.slice A4 n4 d4],.int .i64 (j:Int),.int .i64 (p:Int),.slice D k g] w (Flows (flowB x (j:Int) (p:Int) ts) w)
 refine ji ?_;intro HB0;refine zy ?_;intro HC0;obtain⟨a,ccs,ea,hab,hcl,hR⟩:=s1.at hfn;subst ea;obtain⟨p0,p1,p2,rfl,hr1,hr2,⟨P0,c0,e4,f0,f1,t0⟩,⟨P1,c1,e5,f2,f3,t1⟩,⟨P2,c2,e6,f4,f5,t2⟩⟩:=hR;simp only[List.cons.injEq,and_true] at e4 e5 e6;subst e4 e5 e6;have HCL:Hid (∀v,Below w.heap.size w v→v.cell? (a.add (j*5))=some (.slice P0 fn.args.length c0)∧v.cell? ⟨(a.add (j*5)).block,(a.add (j*5)).off+1,none⟩=some (.int .i64 fn.ret.1)∧v.cell? ⟨(a.add (j*5)).block,(a.add (j*5)).off+2,none⟩=some (.int .i64 fn.ret.2)∧v.cell? ⟨(a.add (j*5)).block,(a.add (j*5)).off+3,none⟩=some (.slice P1 fn.locs.length c1)∧v.cell? ⟨(a.add (j*5)).block,(a.add (j*5)).off+4,none⟩=some (.slice P2 fn.code.length c2)):=fun v hb=>by
  refine zz ?_;intro k0 k1 k2 k3 k4;rw[qAm a (j*5) 1 (by omega)] at k1;rw[qAm a (j*5) 2 (by omega)] at k2;rw[qAm a (j*5) 3 (by omega)] at k3;rw[qAm a (j*5) 4 (by omega)] at k4;exact⟨k0,k1,k2,k3,k4⟩
 refine jo ?_;intro hjn;have hn8:n1≤8:=by have:=(qA1.1 (qAw hc)).f8;omega
 obtain⟨b,ics,eb,hbb,hil,hiR⟩:=t2.at hin;subst eb;obtain⟨rfl,-,-,-⟩:=hiR;have HCI:Hid (∀v,Below w.heap.size w v→v.cell? (b.add (p*3))=some (.int .i64 o)∧v.cell? ⟨(b.add (p*3)).block,(b.add (p*3)).off+1,none⟩=some (.int .i64 ia)∧v.cell? ⟨(b.add (p*3)).block,(b.add (p*3)).off+2,none⟩=some (.int .i64 ib)):=fun v hb=>by
  have k0:=(hb.cell (p:=b.add (p*3)) qW).trans (hil 0 _ rfl);have k1:=(hb.cell (p:=b.add (p*3+1)) qW).trans (hil 1 _ rfl);have k2:=(hb.cell (p:=b.add (p*3+2)) qW).trans (hil 2 _ rfl);rw[qAm b (p*3) 1 (by omega)] at k1;rw[qAm b (p*3) 2 (by omega)] at k2;exact⟨k0,k1,k2⟩
 refine jP ?_;intro ua g0 ul g1 uc g2;rw[g0,g1,g2] at HCL;rw[g0] at q1;rw[g1] at q2;rw[g2] at q3 hpl HV;have hpn:(p:Int)<(uc:Int):=by omega
 rw[hc] at TE2;have HF:=qAg (fun v=>qEA (some a) n1 d1 (j:Int) v);rw[show hasB n1 (j:Int)=true by simp[hasB];omega] at HF;have HI:=qAg (fun v=>qF2 (some b) uc c2 (p:Int) v);rw[show hasB uc (p:Int)=true by simp[hasB];omega] at HI;refine jd ?_;intro SKv;have HAts:=qAg sk.a64;have CHc:Hid (∀v,Below w.heap.size w v→Calls Tryz.prog 69 #[.agg #[.slice A0 n0 d0,.slice (some a) n1 d1,.slice A2 n2 d2,.slice A3 n3 d3,.slice A4 n4 d4],.agg #[.slice P0 ua c0,.int .i64 fn.ret.1,.int .i64 fn.ret.2,.slice P1 ul c1,.slice (some b) uc c2],.agg #[.int .i64 o,.int .i64 ia,.int .i64 ib],.slice D k g] v (Chgs v.heap.size (chgB x fn (o,ia,ib) ts).1 (chgB x fn (o,ia,ib) ts).2 v)):=fun v hb=>
  qG7 A0 (some a) A2 A3 A4 P0 P1 (some b) D n0 n1 n2 n3 n4 d0 d1 d2 d3 d4 ua ul uc c0 c1 c2 k g x fn ts o ia ib v
   ⟨h0,h1,h2,(s0.below hb (qAi _)).wide fun i hi=>qAh hi hb.size,(s1.below hb (qAi _)).wide fun i hi=>qAh hi hb.size,(s2.below hb (qAi _)).wide fun i hi=>qAh hi hb.size,g0,g1,(t0.below hb (qAi _)).wide fun i hi=>qAh hi hb.size,(t1.below hb (qAi _)).wide fun i hi=>qAh hi hb.size,⟨hr1,hr2⟩,hk,SKv.out v hb,by have:=HFit.out.r8;omega,by omega,by have:=HFit.out.i8;omega,by omega,by omega,bk⟩ hgood hnam
 have FOc:=qAg (fun v=>qGx o ia ib (p:Int) v (by omega) (by omega));have HK:=qAg hk;have HFL:Hid ((follB (o,ia,ib) (p:Int)).length≤2):=by show _≤_;unfold follB;repeat(first|(split;· simp)|simp)
 clear hc hnam hgood hcl hil sk s0 s1 s2 h0 h1 h2 l0 l1 l2 m0 m1 m2 t0 t1 t2 f0 f1 f2 f3 f4 f5 g0 g1 g2 hfn hin hk q1 q2 q3 q4 eo ex ey hx1 hy1 h0a;generalize chgB x fn (o,ia,ib) ts=ch at*;generalize follB (o,ia,ib) (p:Int)=fo at*;generalize flowB x (j:Int) (p:Int) ts=fb at*
 go_enter Tryz.func46,Tryz.ntmps46
 go_upto_region 4 with(first
  |(go_at_call 22
    refine(TE2.out _ (HB0.out _)).mono ?_;rintro e w1 ⟨rfl,hb1⟩;refine jR ?_;intro HB1 x0 x1 x2 x3 x4;have hs1:w.heap.size<w1.heap.size:=qR;obtain⟨y0,y1,y2,y3,y4⟩:=HCL.out _ HB1.out;clear hb1)
  |(go_at_call 67
    refine(HF.out _).mono ?_;rintro e w2 ⟨rfl,hw2⟩;have hw3:=hw2.symm;clear hw2;subst hw3)
  |(go_at_call 68
    refine(HI.out _).mono ?_;rintro e w2 ⟨rfl,hw2⟩;have hw3:=hw2.symm;clear hw2;subst hw3))
 refine qAs fun W hW=> ?_;have HBW:Hid (Below w.heap.size w W):=by show Below _ _ _;rw[hW];exact HB1.out.alloc HB1.out.size _
 have HFf:Hid (Blk W w1.heap.size 44 #[.slice P0 ua c0,.int .i64 fn.ret.1,.int .i64 fn.ret.2,.slice P1 ul c1,.slice (some b) uc c2]):=by show Blk _ _ _ _;rw[hW];exact qA9 rfl
 have HMm:Hid (C5 w.heap.size (.slice A0 n0 d0) (.slice (some a) n1 d1) (.slice A2 n2 d2) (.slice A3 n3 d3) (.slice A4 n4 d4) W):=by show C5 _ _ _ _ _ _ _;rw[hW];exact C5.below ⟨x0,x1,x2,x3,x4⟩ (qAo w1 _) hs1
 have hsW:w1.heap.size+1≤W.heap.size:=by rw[hW];simp
 clear hW x0 x1 x2 x3 x4 y0 y1 y2 y3 y4;have HC:Hid (∀v,Below W.heap.size W v→v.cell? ⟨w.heap.size,0,none⟩=some (.slice A0 n0 d0)∧v.cell? ⟨w.heap.size,1,none⟩=some (.slice (some a) n1 d1)∧v.cell? ⟨w.heap.size,2,none⟩=some (.slice A2 n2 d2)∧v.cell? ⟨w.heap.size,3,none⟩=some (.slice A3 n3 d3)∧v.cell? ⟨w.heap.size,4,none⟩=some (.slice A4 n4 d4)∧v.cell? ⟨w1.heap.size,0,none⟩=some (.slice P0 ua c0)∧v.cell? ⟨w1.heap.size,1,none⟩=some (.int .i64 fn.ret.1)∧v.cell? ⟨w1.heap.size,2,none⟩=some (.int .i64 fn.ret.2)∧v.cell? ⟨w1.heap.size,3,none⟩=some (.slice P1 ul c1)∧v.cell? ⟨w1.heap.size,4,none⟩=some (.slice (some b) uc c2)∧v.cell? (b.add (p*3))=some (.int .i64 o)∧v.cell? ⟨(b.add (p*3)).block,(b.add (p*3)).off+1,none⟩=some (.int .i64 ia)∧v.cell? ⟨(b.add (p*3)).block,(b.add (p*3)).off+2,none⟩=some (.int .i64 ib)):=fun v hb=>by
  have hm:=HMm.out.below hb (by omega);have hf:=qAx HFf.out hb (by omega);have hi:=HCI.out v (HBW.out.trans (hb.mono HBW.out.size));exact⟨hm.1,hm.2.1,hm.2.2.1,hm.2.2.2.1,hm.2.2.2.2,hf.cell 0,hf.cell 1,hf.cell 2,hf.cell 3,hf.cell 4,hi.1,hi.2.1,hi.2.2⟩
 have SW:=qAg (HC.out W (qAk _ _));have HSW:=qAg HBW.out.size;have ONc:Hid (∀v A9 B9 c9 d9,Below w.heap.size w v→Sq typL (·<v.heap.size) v A9 ch.1→Sq typL (·<v.heap.size) v B9 ch.2→ch.2.length≤d9→d9≤maxLen→Calls Tryz.prog 70 #[.agg #[.slice A9 ch.1.length c9,.slice B9 ch.2.length d9],.slice D k g] v (Moved (movB ts ch.1 ch.2) v)):=fun v A9 B9 c9 d9 hb s9 s8 hd hm=>
  on_any A9 B9 D ch.1.length ch.2.length k c9 d9 g ch.1 ch.2 ts v rfl rfl HK.out s9 s8 (SKv.out _ hb) (by omega) (by omega) bk bg bg2 hd (by unfold maxLen at hm;omega) hnil
 cases hmv:movB ts ch.1 ch.2
 case none=>
  have HMV:=qAg hmv;rw[hmv] at HV;clear hmv
  go_region_held3 (fun v=>v.cell? ⟨w.heap.size,0,none⟩=some (.slice A0 n0 d0)∧v.cell? ⟨w.heap.size,1,none⟩=some (.slice (some a) n1 d1)∧v.cell? ⟨w.heap.size,2,none⟩=some (.slice A2 n2 d2)∧v.cell? ⟨w.heap.size,3,none⟩=some (.slice A3 n3 d3)∧v.cell? ⟨w.heap.size,4,none⟩=some (.slice A4 n4 d4)∧v.cell? ⟨w1.heap.size,0,none⟩=some (.slice P0 ua c0)∧v.cell? ⟨w1.heap.size,1,none⟩=some (.int .i64 fn.ret.1)∧v.cell? ⟨w1.heap.size,2,none⟩=some (.int .i64 fn.ret.2)∧v.cell? ⟨w1.heap.size,3,none⟩=some (.slice P1 ul c1)∧v.cell? ⟨w1.heap.size,4,none⟩=some (.slice (some b) uc c2)∧v.cell? (b.add (p*3))=some (.int .i64 o)∧v.cell? ⟨(b.add (p*3)).block,(b.add (p*3)).off+1,none⟩=some (.int .i64 ia)∧v.cell? ⟨(b.add (p*3)).block,(b.add (p*3)).off+2,none⟩=some (.int .i64 ib))
   (first|exact SS5.out|exact SS4.out|exact SW.out|exact HC.out _ (qAk _ W).drew)
   (first
   |(go_at_call 69
     refine(CHc.out _ HBW.out.drew).mono ?_;intro e w4 h4;obtain⟨hb4,A9,c9,B9,d9,rfl,s9,s8,hd9,hm9⟩:=qEq h4 (qAi _);refine qAO ?_;intro HB4 S9 S8 HD9 SS4;clear h4 hb4 s9 s8 hd9 hm9)
   |(go_at_call 70
     refine(ONc.out _ A9 B9 c9 d9 (HBW.out.trans (HB4.out.mono HBW.out.size)) S9.out S8.out HD9.out.1 HD9.out.2).mono ?_;intro e w5 h5;obtain⟨rfl,hb5⟩:=qGn HMV.out h5;have HB5:=qAg (HB4.out.trans (hb5.mono HB4.out.size));have SS5:=qAg (HC.out _ HB5.out);clear h5 hb5))
  go_wp2_with fail
  go_ret3
  rw[HV.out];exact qBw (HBW.out.trans (HB5.out.mono HBW.out.size))
 case some t9=>
  have HMV:=qAg hmv;rw[hmv] at HV;clear hmv
  go_region_held3 (fun v=>v.cell? ⟨w.heap.size,0,none⟩=some (.slice A0 n0 d0)∧v.cell? ⟨w.heap.size,1,none⟩=some (.slice (some a) n1 d1)∧v.cell? ⟨w.heap.size,2,none⟩=some (.slice A2 n2 d2)∧v.cell? ⟨w.heap.size,3,none⟩=some (.slice A3 n3 d3)∧v.cell? ⟨w.heap.size,4,none⟩=some (.slice A4 n4 d4)∧v.cell? ⟨w1.heap.size,0,none⟩=some (.slice P0 ua c0)∧v.cell? ⟨w1.heap.size,1,none⟩=some (.int .i64 fn.ret.1)∧v.cell? ⟨w1.heap.size,2,none⟩=some (.int .i64 fn.ret.2)∧v.cell? ⟨w1.heap.size,3,none⟩=some (.slice P1 ul c1)∧v.cell? ⟨w1.heap.size,4,none⟩=some (.slice (some b) uc c2)∧v.cell? (b.add (p*3))=some (.int .i64 o)∧v.cell? ⟨(b.add (p*3)).block,(b.add (p*3)).off+1,none⟩=some (.int .i64 ia)∧v.cell? ⟨(b.add (p*3)).block,(b.add (p*3)).off+2,none⟩=some (.int .i64 ib))
   (first|exact SS5.out|exact SS4.out|exact SW.out|exact HC.out _ (qAk _ W).drew)
   (first
   |(go_at_call 69
     refine(CHc.out _ HBW.out.drew).mono ?_;intro e w4 h4;obtain⟨hb4,A9,c9,B9,d9,rfl,s9,s8,hd9,hm9⟩:=qEq h4 (qAi _);refine qAO ?_;intro HB4 S9 S8 HD9 SS4;clear h4 hb4 s9 s8 hd9 hm9)
   |(go_at_call 70
     refine(ONc.out _ A9 B9 c9 d9 (HBW.out.trans (HB4.out.mono HBW.out.size)) S9.out S8.out HD9.out.1 HD9.out.2).mono ?_;intro e w5 h5;obtain⟨v5,rfl,hown5,hb5⟩:=qGm HMV.out h5;have HB5:=qAg (HB4.out.trans (hb5.mono HB4.out.size));have HA5:=qAg (movB_64 HMV.out HAts.out S8.out.a64);have HO5:=qAg (qFX hown5 (qA8 HBW.out.size HB4.out.size));have SS5:=qAg (HC.out _ HB5.out);clear h5 hown5 hb5))
  obtain⟨-,-,-,-,-,-,-,-,-,z4,y0,y1,y2⟩:=SS5.out;have HW5:=qAg (HBW.out.trans (HB5.out.mono HBW.out.size));have hs5:=HB5.out.size
  by_cases hmem:(uc:Int)∈fo
  case' pos=>rw[if_pos hmem] at HV
  case' neg=>rw[if_neg hmem] at HV
  all_goals
   have HME:=qAg hmem;clear hmem
   go_wp2_with (first
    |(go_at_call 71
      refine(FOc.out _).mono ?_;rintro e w6 ⟨hb6,v6,rfl,hown6⟩;have HB6:=qAg hb6;have HO6:=qAg hown6;obtain⟨A6,c6,rfl,hl6,hlc6,hcl6⟩:=qDz hown6;have HN6:=qAg (qEY A6 fo.length c6 fo (uc:Int) w6 rfl (by have:=HFL.out;omega) fun jj xx hx=>by obtain⟨aa,ea,-,-,hcc⟩:=hcl6 jj xx hx;exact⟨aa,ea,hcc⟩);have z6:=(HB6.out.cell (p:=⟨w1.heap.size,4,none⟩) (by show w1.heap.size<_;omega)).trans z4;clear hb6 hown6 hl6 hlc6 hcl6)
    |(go_at_call 72
      refine(HN6.out).mono ?_;rintro e w7 ⟨he7,rfl⟩
      first|(rw[decide_eq_true HME.out] at he7)|(rw[decide_eq_false HME.out] at he7)
      subst he7))
   go_ret3
   rw[HV.out]
   first
   |exact qBw (HW5.out.trans (HB6.out.mono HW5.out.size))
   |(refine⟨HW5.out.trans (HB6.out.mono HW5.out.size),_,_,rfl,qC7 HO5.out HB6.out (qAi _),qFX HO6.out HW5.out.size,fun bb h1 h2=> ?_,HA5.out⟩
     have k1:=(HO5.out.lt bb h1).2;have k2:=(HO6.out.lt bb h2).1
     omega)
theorem qF5 (cs:List Value) (x:Mod) (fi pc:Int) (D:Option Addr) (k g:Nat) (ts:List Typ) (w:World) (h:modL.R (·<w.heap.size) w cs x) (hfi:I64 fi) (hpc:I64 pc) (hk:ts.length=k) (sk:Sq typL (·<w.heap.size) w D ts) (bk:k≤1000) (bg:k≤g) (bg2:g≤9223372036854775807) (hnil:D=none→g=0):
 Calls Tryz.prog 46 #[vAgg cs,.int .i64 fi,.int .i64 pc,.slice D k g] w (Flows (flowB x fi pc ts) w):=by
 by_cases hc:checkN x=0
 rotate_left
 · exact qJb cs x fi pc D k g ts w h hc
 cases hf:hasB x.funcs.length fi
 · exact qIF cs x fi pc D k g ts w h hc hf
 simp[hasB] at hf;obtain⟨j,rfl⟩:∃j:Nat,fi=(j:Int):=⟨fi.toNat,by omega⟩;obtain⟨fn,hfn⟩:∃fn,x.funcs[j]? =some fn:=⟨x.funcs[j]'(by omega),List.getElem?_eq_getElem _⟩
 cases hp:hasB fn.code.length pc
 · exact qIE cs x j pc D k g ts w h fn hc hfn hp
 simp[hasB] at hp;obtain⟨p,rfl⟩:∃p:Nat,pc=(p:Int):=⟨pc.toNat,by omega⟩;obtain⟨⟨o,ia,ib⟩,hi⟩:∃i,fn.code[p]? =some i:=⟨fn.code[p]'(by omega),List.getElem?_eq_getElem _⟩;exact flow_at cs x j p D k g ts w h fn o ia ib hc hfn hi hk sk bk bg bg2 hnil
theorem qD7 (P0 P1 P2:Option Addr) (ua ul uc c0 c1 c2:Nat) (r1 r2:Int) (w:World) (h0:ua≤1000) (h1:ul≤1000):
 Calls Tryz.prog 21 #[.agg #[.slice P0 ua c0,.int .i64 r1,.int .i64 r2,.slice P1 ul c1,.slice P2 uc c2]] w fun e w'=>e= .returned (.int .i64 ((ua+ul:Nat):Int))∧Below w.heap.size w w':=by
 have hw:IntKind.i64.wrap ((ua:Int)+(ul:Int))=((ua+ul:Nat):Int):=by rw[qAv];omega
 go_enter Tryz.func21,Tryz.ntmps21
 go_wp2_with fail
 go_ret;exact⟨by simp,qAo w _⟩
theorem qG4 (cs:List Value) (x:Mod) (j p:Nat) (D:Option Addr) (k g:Nat) (ts:List Typ) (w:World) (h:modL.R (·<w.heap.size) w cs x) (fn:Fn) (i:Ins) (t:List Typ) (l:List Int) (hc:checkN x=0) (hfn:x.funcs[j]? =some fn) (hin:fn.code[p]? =some i) (hk:ts.length=k) (sk:Sq typL (·<w.heap.size) w D ts) (bk:k≤1000) (bg:k≤g) (bg2:g≤9223372036854775807) (hnil:D=none→g=0) (hfl:insB8 x fn i p ts=(0,t,l)):
 Calls Tryz.prog 25 #[vAgg cs,.int .i64 (j:Int),.int .i64 (p:Int),.slice D k g] w fun e w'=>e= .returned (.tuple #[.int .i64 ((cntB x fn i ts).1:Int),.int .i64 ((cntB x fn i ts).2:Int)])∧Below w.heap.size w w':=by
 obtain⟨c1,-,-,c2,u,c3,c4⟩:=qFK hfl;obtain⟨n1,hn1⟩:∃n,(cntB x fn i ts).1=n:=⟨_,rfl⟩;obtain⟨n2,hn2⟩:∃n,(cntB x fn i ts).2=n:=⟨_,rfl⟩;rw[hn1] at c1 c2 c3⊢;rw[hn2] at c4⊢;rw[hk] at c1 c2 c3;have hj8:j<1000000:=by have:=(qA1.1 (qAw hc)).f8;have:=(qAj.1 hfn).1;omega
 have hp8:p<1000000:=by obtain⟨-,-,h64,-⟩:=qBR hc (qAl hfn);have:=(qAj.1 hin).1;omega
 have FA:Hid (∀v b,Below w.heap.size w v→b≤k→Calls Tryz.prog 46 #[vAgg cs,.int .i64 (j:Int),.int .i64 (p:Int),.slice (if g=b then D else D.map (·.add (b*2))) (k-b) (g-b)] v (Flows (insB8 x fn i p (ts.drop b)) v)):=fun v b hb hbk=>by
  have hd:b<ts.length→(if g=b then D else D.map (·.add (b*2)))=D.map (·.add (b*2)):=fun h=>if_neg (by omega);have hs:=qEx ((sk.below hb (qAi _)).wide fun i hi=>qAh hi hb.size) (if g=b then D else D.map (·.add (b*2))) hd;have:=qF5 cs x (j:Int) (p:Int) (if g=b then D else D.map (·.add (b*2))) (k-b) (g-b) (ts.drop b) v (qBS h hb) ⟨by omega,by omega⟩ ⟨by omega,by omega⟩ (by rw[List.length_drop,hk]) hs (by omega) (by omega) (by omega) (fun hh=>by
   split at hh
   · omega
   · have:D=none:=by cases D with|none=>rfl|some a=>cases hh
     rw[hnil this];omega)
  rwa [qEE hc hfn hin] at this
 obtain⟨A0,A1,A2,A3,A4,n0',n1',n2',n3',n4',d0,d1,d2,d3,d4,rfl⟩:=qCa h;have HC2:=qAg c2;have HC3:=qAg c3;have HC4:=qAg c4;clear h hc hfn hin hk sk hnil hfl c2 c3 c4 hn1 hn2;simp only[vAgg] at FA⊢
 go_enter Tryz.func25,Tryz.ntmps25
 go_upto_region 1 with(fail)
 refine qAs fun W hW=> ?_;refine ju ?_;intro HBW;have HBx:Hid (Blk W w.heap.size 28 #[.slice A0 n0' d0,.slice A1 n1' d1,.slice A2 n2' d2,.slice A3 n3' d3,.slice A4 n4' d4]):=by show Blk _ _ _ _;rw[hW];exact qA9 rfl
 have hsW:w.heap.size<W.heap.size:=by rw[hW];simp
 clear hW;have HCV:Hid (∀v,Below W.heap.size W v→C5 w.heap.size (.slice A0 n0' d0) (.slice A1 n1' d1) (.slice A2 n2' d2) (.slice A3 n3' d3) (.slice A4 n4' d4) v):=fun v hb=>by
  have hf:=qAx HBx.out hb hsW;exact⟨hf.cell 0,hf.cell 1,hf.cell 2,hf.cell 3,hf.cell 4⟩
 go_loopw [8] (fun v wr=>∃q:Nat,q≤n1∧v= .int .i64 (q:Nat)∧Below W.heap.size W wr) (fun v _=>n1-(intOf v).toNat)
 case atStart=>exact⟨0,qAq _,rfl,qAk _ _⟩
 case round=>
  obtain⟨wf,eW⟩:∃wf,wf=wr:=⟨_,rfl⟩;subst eW;obtain⟨q,hq,rfl,hbf⟩:=hrel;have HBf:=qAg hbf;clear hbf;obtain⟨b,hb⟩:∃b:Nat,k-q=b:=⟨_,rfl⟩;have hw3:IntKind.i64.wrap (b:Int)=(b:Int):=by rw[qAv];omega
  have e9:(0:Int)≤(b:Int):=by omega
  have e2:b≤k:=by omega
  have e3:b≤g:=by omega
  have e4:(b:Int)≤(k:Int):=by omega
  have e5:(b:Int)≤(g:Int):=by omega
  have e6:k-b=q:=by omega
  have e7:(k:Int)≤(g:Int):=by omega
  have e8:decide ((b:Int)<0)=false:=by simp
  have hw1:IntKind.i64.wrap ((k:Int)-(q:Int))=(b:Int):=by rw[qAv];omega
  have hw2:IntKind.i64.wrap ((q:Int)+1)=((q+1:Nat):Int):=by rw[qAv];omega
  obtain⟨er,t',ks,hfe⟩:∃er t' ks,insB8 x fn i p (ts.drop b)=(er,t',ks):=⟨_,_,_,rfl⟩;have FA2:Hid (∀v,Below W.heap.size W v→Calls Tryz.prog 46 #[.agg #[.slice A0 n0' d0,.slice A1 n1' d1,.slice A2 n2' d2,.slice A3 n3' d3,.slice A4 n4' d4],.int .i64 (j:Int),.int .i64 (p:Int),.slice (if g=b then D else D.map (·.add (b*2))) q (g-b)] v (Flows (er,t',ks) v)):=fun v hv=>by
   have:=FA.out v b (HBW.out.trans (hv.mono HBW.out.size)) e2
   rwa [hfe,e6] at this
  have HFE:=qAg hfe;have HQ:=qAg hb;clear hfe hb;have hcl:=HCV.out _ HBf.out;obtain⟨z0,z1,z2,z3,z4⟩:=hcl;obtain⟨D',hD⟩:∃D',(if g=b then D else D.map (·.add (b*2)))=D':=⟨_,rfl⟩;rw[hD] at FA2;have hcase:((g=b)=True∧D=D')∨((g=b)=False∧D.map (·.add (b*2))=D'):=by
   by_cases hgb:g=b
   · exact .inl ⟨eq_true hgb,by rw[if_pos hgb] at hD;exact hD⟩
   · exact .inr ⟨eq_false hgb,by rw[if_neg hgb] at hD;exact hD⟩
  clear hD;rcases hcase with⟨hgb,hDD⟩|⟨hgb,hDD⟩
  · exact qG
  · exact qG
theorem qHU {cs:List Value} {x:Mod} {j p:Nat} {fn:Fn} {o ia ib:Int} (h:modL.R (·<w.heap.size) w cs x) (hf:x.funcs[j]? =some fn) (hi:fn.code[p]? =some (o,ia,ib)):
 ∃A0 a A2 A3 A4 n0 n2 n3 n4 d0 d1 d2 d3 d4 P0 P1 b c0 c1 c2,cs=[.slice A0 n0 d0,.slice (some a) x.funcs.length d1,.slice A2 n2 d2,.slice A3 n3 d3,.slice A4 n4 d4]∧
  ∀v,Below w.heap.size w v→(v.cell? (a.add (j*5))=some (.slice P0 fn.args.length c0)∧v.cell? ⟨(a.add (j*5)).block,(a.add (j*5)).off+1,none⟩=some (.int .i64 fn.ret.1)∧v.cell? ⟨(a.add (j*5)).block,(a.add (j*5)).off+2,none⟩=some (.int .i64 fn.ret.2)∧v.cell? ⟨(a.add (j*5)).block,(a.add (j*5)).off+3,none⟩=some (.slice P1 fn.locs.length c1)∧v.cell? ⟨(a.add (j*5)).block,(a.add (j*5)).off+4,none⟩=some (.slice (some b) fn.code.length c2))∧
   v.cell? (b.add (p*3))=some (.int .i64 o)∧v.cell? ⟨(b.add (p*3)).block,(b.add (p*3)).off+1,none⟩=some (.int .i64 ia)∧v.cell? ⟨(b.add (p*3)).block,(b.add (p*3)).off+2,none⟩=some (.int .i64 ib):=by
 obtain⟨_,_,_,_,_,rfl,⟨A0,d0,e0,l0,m0,s0⟩,⟨A1,d1,e1,l1,m1,s1⟩,⟨A2,d2,e2,l2,m2,s2⟩,⟨A3,d3,e3,-⟩,⟨A4,d4,e4,-⟩⟩:=h;simp only[List.cons.injEq,and_true] at e0 e1 e2 e3 e4;subst e0 e1 e2 e3 e4;obtain⟨a,ccs,ea,hab,hcl,hR⟩:=s1.at hf;subst ea;obtain⟨p0,p1,p2,rfl,hr1,hr2,⟨P0,c0,e4,f0,f1,t0⟩,⟨P1,c1,e5,f2,f3,t1⟩,⟨P2,c2,e6,f4,f5,t2⟩⟩:=hR;simp only[List.cons.injEq,and_true] at e4 e5 e6;subst e4 e5 e6;obtain⟨b,ics,eb,hbb,hil,hiR⟩:=t2.at hi;subst eb;obtain⟨rfl,-,-,-⟩:=hiR;refine⟨A0,a,A2,A3,A4,_,_,_,_,d0,d1,d2,d3,d4,P0,P1,b,c0,c1,c2,rfl,fun v hb=>⟨?_,?_⟩⟩
 · exact qb
 · exact qx
def regB (x:Mod) (fn:Fn) (i:Ins) (s:List Typ):List Int:=[i.1,i.2.1,i.2.2,((fn.args.length+fn.locs.length+s.length-(cntB x fn i s).1:Nat):Int),((cntB x fn i s).1:Int),((cntB x fn i s).2:Int)]
abbrev i6 (l:List Int):List Value:=l.map (.int .i64)
theorem qFJ (cs:List Value) (x:Mod) (j p:Nat) (D:Option Addr) (k g:Nat) (ts:List Typ) (w:World) (h:modL.R (·<w.heap.size) w cs x) (fn:Fn) (i:Ins) (t:List Typ) (l:List Int) (hc:checkN x=0) (hfn:x.funcs[j]? =some fn) (hin:fn.code[p]? =some i) (hk:ts.length=k) (sk:Sq typL (·<w.heap.size) w D ts) (bk:k≤1000) (bg:k≤g) (bg2:g≤9223372036854775807) (hnil:D=none→g=0) (hfl:insB8 x fn i p ts=(0,t,l)):
 Calls Tryz.prog 13 #[vAgg cs,.int .i64 (j:Int),.int .i64 (p:Int),.slice D k g] w fun e w'=>e= .returned (vAgg (i6 (regB x fn i ts)))∧Below w.heap.size w w':=by
 obtain⟨c1,-⟩:=qFK hfl;obtain⟨q1,q2,q3,-⟩:=qBR hc (qAl hfn);have hjl:=(qAj.1 hfn).1;have hpl:=(qAj.1 hin).1;obtain⟨o,ia,ib⟩:=i;have CN:Hid (∀v,Below w.heap.size w v→Calls Tryz.prog 25 #[vAgg cs,.int .i64 (j:Int),.int .i64 (p:Int),.slice D k g] v fun e w'=>e= .returned (.tuple #[.int .i64 ((cntB x fn (o,ia,ib) ts).1:Int),.int .i64 ((cntB x fn (o,ia,ib) ts).2:Int)])∧Below v.heap.size v w'):=fun v hb=>
  qG4 cs x j p D k g ts v (qBS h hb) fn (o,ia,ib) t l hc hfn hin hk ((sk.below hb (qAi _)).wide fun i hi=>qAh hi hb.size) bk bg bg2 hnil hfl
 obtain⟨A0,a,A2,A3,A4,n0,n2,n3,n4,d0,d1,d2,d3,d4,P0,P1,b,c0,c1',c2,rfl,hcode⟩:=qHU h hfn hin;have hn8:x.funcs.length≤8:=(qA1.1 (qAw hc)).f8;obtain⟨n1,hn1⟩:∃n,x.funcs.length=n:=⟨_,rfl⟩;refine qAG ?_;intro ua hua ul hul uc huc;obtain⟨m1,hm1⟩:∃n,(cntB x fn (o,ia,ib) ts).1=n:=⟨_,rfl⟩;obtain⟨m2,hm2⟩:∃n,(cntB x fn (o,ia,ib) ts).2=n:=⟨_,rfl⟩;simp only[regB,hua,hul,hk];rw[hn1] at CN hn8 hjl⊢;rw[hm1] at CN c1⊢;rw[hm2] at CN⊢;rw[hua,hul,huc] at hcode;rw[hua] at q1;rw[hul] at q2;rw[huc] at q3 hpl;rw[hk] at c1;have HCode:=qAg hcode;have LC:=qAg (fun v=>qD7 P0 P1 (some b) ua ul uc c0 c1' c2 fn.ret.1 fn.ret.2 v (by omega) (by omega));clear h hc hfn hin hk sk hnil hfl hn1 hua hul huc hm1 hm2 hcode;have e1:(j:Int)<(n1:Int):=by omega
 have e2:(p:Int)<(uc:Int):=by omega
 have hw1:IntKind.i64.wrap ((ua:Int)+(ul:Int)+(k:Int))=(ua:Int)+(ul:Int)+(k:Int):=by rw[qAv];omega
 have hw2:IntKind.i64.wrap ((ua:Int)+(ul:Int)+(k:Int)-(m1:Int))=((ua+ul+k-m1:Nat):Int):=by rw[qAv];omega
 simp only[vAgg] at CN⊢
 go_enter Tryz.func13,Tryz.ntmps13
 go_upto_region 1 with(fail)
 refine qAs fun W hW=> ?_;have HBW:Hid (Below w.heap.size w W):=by show Below _ _ _;rw[hW];exact(qAo w _).alloc (by simp) _
 have HBx:Hid (Blk W w.heap.size 28 #[.slice A0 n0 d0,.slice (some a) n1 d1,.slice A2 n2 d2,.slice A3 n3 d3,.slice A4 n4 d4]):=by show Blk _ _ _ _;rw[hW];exact qAx (qA9 rfl) (qAo _ _) (by simp)
 have HBy:Hid (Blk W (w.heap.size+1) 47 #[.int .i64 0,.int .i64 0,.int .i64 0,.int .i64 0,.int .i64 0,.int .i64 0]):=by show Blk _ _ _ _;rw[hW];exact qA9 (by simp)
 have hsW:w.heap.size+1<W.heap.size:=by rw[hW];simp
 clear hW;have HCV:Hid (∀v,Below W.heap.size W v→C5 w.heap.size (.slice A0 n0 d0) (.slice (some a) n1 d1) (.slice A2 n2 d2) (.slice A3 n3 d3) (.slice A4 n4 d4) v):=fun v hb=>by
  have hf:=qAx HBx.out hb (by omega);exact⟨hf.cell 0,hf.cell 1,hf.cell 2,hf.cell 3,hf.cell 4⟩
 obtain⟨⟨u0,u1,u2,u3,u4⟩,u5,u6,u7⟩:=HCode.out W HBW.out;obtain⟨z0,z1,z2,z3,z4⟩:=HCV.out W (qAk _ _)
 go_upto_region 2 with(fail)
 refine qAs fun V hV=> ?_;have HBV:Hid (Below W.heap.size W V):=by show Below _ _ _;rw[hV];exact qAo W _
 have HBi:Hid (Blk V W.heap.size 52 #[.int .i64 o,.int .i64 ia,.int .i64 ib]):=by show Blk _ _ _ _;rw[hV];exact qA9 rfl
 have sV:V.heap.size=W.heap.size+1:=by rw[hV];simp
 clear hV u0 u1 u2 u3 u4 u5 u6 u7 z0 z1 z2 z3 z4;obtain⟨z0,z1,z2,z3,z4⟩:=HCV.out V HBV.out
 go_upto_region 3 with(first
  |(go_at_call 25
    refine(CN.out V (HBW.out.trans (HBV.out.mono (by omega)))).mono ?_;rintro e w3 ⟨rfl,hb3⟩;have HB3:=qAg hb3;clear hb3))
 have s3:=HB3.out.size;have hab:a.block<w.heap.size:=by
  have:=(HCode.out w (qAk _ _)).1.1;have:=qAr w _ this
  rwa [qAz] at this
 have HLd:Hid (∀v,Below V.heap.size V v→v.cell? ⟨w.heap.size,0,none⟩=some (.slice A0 n0 d0)∧v.cell? ⟨w.heap.size,1,none⟩=some (.slice (some a) n1 d1)∧v.cell? ⟨w.heap.size,2,none⟩=some (.slice A2 n2 d2)∧v.cell? ⟨w.heap.size,3,none⟩=some (.slice A3 n3 d3)∧v.cell? ⟨w.heap.size,4,none⟩=some (.slice A4 n4 d4)∧v.cell? (a.add (j*5))=some (.slice P0 ua c0)∧v.cell? ⟨(a.add (j*5)).block,(a.add (j*5)).off+1,none⟩=some (.int .i64 fn.ret.1)∧v.cell? ⟨(a.add (j*5)).block,(a.add (j*5)).off+2,none⟩=some (.int .i64 fn.ret.2)∧v.cell? ⟨(a.add (j*5)).block,(a.add (j*5)).off+3,none⟩=some (.slice P1 ul c1')∧v.cell? ⟨(a.add (j*5)).block,(a.add (j*5)).off+4,none⟩=some (.slice (some b) uc c2)∧v.cell? ⟨W.heap.size,0,none⟩=some (.int .i64 o)∧v.cell? ⟨W.heap.size,1,none⟩=some (.int .i64 ia)∧v.cell? ⟨W.heap.size,2,none⟩=some (.int .i64 ib)):=fun v hv=>by
  have hv2:Below W.heap.size W v:=HBV.out.trans (hv.mono (by omega));obtain⟨p0,p1,p2,p3,p4⟩:=HCV.out v hv2;obtain⟨⟨q0,q1,q2,q3,q4⟩,-⟩:=HCode.out v (HBW.out.trans (hv2.mono (by omega)));have hf:=qAx HBi.out hv (by omega);exact⟨p0,p1,p2,p3,p4,q0,q1,q2,q3,q4,hf.cell 0,hf.cell 1,hf.cell 2⟩
 have HON:Hid (∀v v',(v.cell? ⟨w.heap.size,0,none⟩=some (.slice A0 n0 d0)∧v.cell? ⟨w.heap.size,1,none⟩=some (.slice (some a) n1 d1)∧v.cell? ⟨w.heap.size,2,none⟩=some (.slice A2 n2 d2)∧v.cell? ⟨w.heap.size,3,none⟩=some (.slice A3 n3 d3)∧v.cell? ⟨w.heap.size,4,none⟩=some (.slice A4 n4 d4)∧v.cell? (a.add (j*5))=some (.slice P0 ua c0)∧v.cell? ⟨(a.add (j*5)).block,(a.add (j*5)).off+1,none⟩=some (.int .i64 fn.ret.1)∧v.cell? ⟨(a.add (j*5)).block,(a.add (j*5)).off+2,none⟩=some (.int .i64 fn.ret.2)∧v.cell? ⟨(a.add (j*5)).block,(a.add (j*5)).off+3,none⟩=some (.slice P1 ul c1')∧v.cell? ⟨(a.add (j*5)).block,(a.add (j*5)).off+4,none⟩=some (.slice (some b) uc c2)∧v.cell? ⟨W.heap.size,0,none⟩=some (.int .i64 o)∧v.cell? ⟨W.heap.size,1,none⟩=some (.int .i64 ia)∧v.cell? ⟨W.heap.size,2,none⟩=some (.int .i64 ib))→Only (w.heap.size+1) v v'→v'.cell? ⟨w.heap.size,0,none⟩=some (.slice A0 n0 d0)∧v'.cell? ⟨w.heap.size,1,none⟩=some (.slice (some a) n1 d1)∧v'.cell? ⟨w.heap.size,2,none⟩=some (.slice A2 n2 d2)∧v'.cell? ⟨w.heap.size,3,none⟩=some (.slice A3 n3 d3)∧v'.cell? ⟨w.heap.size,4,none⟩=some (.slice A4 n4 d4)∧v'.cell? (a.add (j*5))=some (.slice P0 ua c0)∧v'.cell? ⟨(a.add (j*5)).block,(a.add (j*5)).off+1,none⟩=some (.int .i64 fn.ret.1)∧v'.cell? ⟨(a.add (j*5)).block,(a.add (j*5)).off+2,none⟩=some (.int .i64 fn.ret.2)∧v'.cell? ⟨(a.add (j*5)).block,(a.add (j*5)).off+3,none⟩=some (.slice P1 ul c1')∧v'.cell? ⟨(a.add (j*5)).block,(a.add (j*5)).off+4,none⟩=some (.slice (some b) uc c2)∧v'.cell? ⟨W.heap.size,0,none⟩=some (.int .i64 o)∧v'.cell? ⟨W.heap.size,1,none⟩=some (.int .i64 ia)∧v'.cell? ⟨W.heap.size,2,none⟩=some (.int .i64 ib)):=fun v v' h ho=>by
  have hk:∀(p:Addr) u,v.cell? p=some u→p.block≠w.heap.size+1→v'.cell? p=some u:=fun p u hp hn=>by
   rw[←hp];unfold World.cell?;rw[ho.block _ (qAr v _ hp) (fun e=>hn (by injection e with e))]
  obtain⟨p0,p1,p2,p3,p4,q0,q1,q2,q3,q4,r0,r1,r2⟩:=h;have hab':(a.add (j*5)).block<w.heap.size:=by rw[qAz];exact hab
  exact⟨hk _ _ p0 (by simp),hk _ _ p1 (by simp),hk _ _ p2 (by simp),hk _ _ p3 (by simp),hk _ _ p4 (by simp),hk _ _ q0 (by omega),hk _ _ q1 zA,hk _ _ q2 zA,hk _ _ q3 zA,hk _ _ q4 zA,hk _ _ r0 zA,hk _ _ r1 zA,hk _ _ r2 zA⟩
 have SW:=qAg (HLd.out w3 HB3.out)
 go_region_held3 (fun v=>v.cell? ⟨w.heap.size,0,none⟩=some (.slice A0 n0 d0)∧v.cell? ⟨w.heap.size,1,none⟩=some (.slice (some a) n1 d1)∧v.cell? ⟨w.heap.size,2,none⟩=some (.slice A2 n2 d2)∧v.cell? ⟨w.heap.size,3,none⟩=some (.slice A3 n3 d3)∧v.cell? ⟨w.heap.size,4,none⟩=some (.slice A4 n4 d4)∧v.cell? (a.add (j*5))=some (.slice P0 ua c0)∧v.cell? ⟨(a.add (j*5)).block,(a.add (j*5)).off+1,none⟩=some (.int .i64 fn.ret.1)∧v.cell? ⟨(a.add (j*5)).block,(a.add (j*5)).off+2,none⟩=some (.int .i64 fn.ret.2)∧v.cell? ⟨(a.add (j*5)).block,(a.add (j*5)).off+3,none⟩=some (.slice P1 ul c1')∧v.cell? ⟨(a.add (j*5)).block,(a.add (j*5)).off+4,none⟩=some (.slice (some b) uc c2)∧v.cell? ⟨W.heap.size,0,none⟩=some (.int .i64 o)∧v.cell? ⟨W.heap.size,1,none⟩=some (.int .i64 ia)∧v.cell? ⟨W.heap.size,2,none⟩=some (.int .i64 ib))
  (first|with_reducible exact SS5.out|with_reducible exact SW.out|with_reducible exact HLd.out _ HB3.out.drew|with_reducible exact HON.out _ _ SS5.out (qBA (qBA (qBA (qBA (qBA (qBA (qBs _ _) _ _) _ _) _ _) _ _) _ _) _ _))
  (first
  |(go_at_call 21
    refine(LC.out _).mono ?_;rintro e w5 ⟨rfl,hb5⟩;have HB5:Hid (Below V.heap.size V w5):=(by show Below _ _ _;exact HB3.out.drew.trans (hb5.mono (by simpa using s3)));have SS5:=qAg (HLd.out _ HB5.out);have YB:=qAx HBy.out (HBV.out.trans (HB5.out.mono (by omega))) (by omega);have y0:=YB.cell 0;have y1:=YB.cell 1;have y2:=YB.cell 2;have y3:=YB.cell 3;have y4:=YB.cell 4;have y5:=YB.cell 5;have f0:=YB.frozen 0;have f1:=YB.frozen 1;have f2:=YB.frozen 2;have f3:=YB.frozen 3;have f4:=YB.frozen 4;have f5:=YB.frozen 5;clear hb5 YB))
 simp only[Exit.then]
 go_wp2_with fail
 refine bodyPost_ret (v:= .agg #[.int .i64 o,.int .i64 ia,.int .i64 ib,.int .i64 ((ua+ul+k-m1:Nat):Int),.int .i64 (m1:Int),.int .i64 (m2:Int)]) (by simp[results,Tryz.results13,go_sem,y0,y1,y2,y3,y4,y5,hw1,hw2]) rfl ⟨by simp[i6],?_⟩;have hb5:=HBW.out.trans ((HBV.out.trans (HB5.out.mono (by omega))).mono (by omega));exact(((((hb5.setCell (by simp) _).setCell (by simp) _).setCell (by simp) _).setCell (by simp) _).setCell (by simp) _).setCell (by simp) _
def Rg (w:World) (b ty n:Nat) (f:Nat→Value):Prop:=∃c:Array Value,Blk w b ty c∧c.size=n∧∀i,i<n→c[i]? =some (f i)
section
variable {w v:World} {b ty n:Nat} {f g:Nat→Value}
theorem Rg.lt (h:Rg w b ty n f):b<w.heap.size:=h.choose_spec.1.lt
theorem Rg.cell (h:Rg w b ty n f) {i:Nat} (hi:i<n):w.cell? ⟨b,i,none⟩=some (f i):=by
 obtain⟨c,hb,-,hc⟩:=h;rw[hb.cell,hc i hi]
theorem Rg.frozen (h:Rg w b ty n f) (i:Nat):w.frozen? ⟨b,i,none⟩=false:=h.choose_spec.1.frozen i
theorem Rg.set (h:Rg w b ty n f) (i:Nat) (u:Value):Rg (w.setCell ⟨b,i,none⟩ u) b ty n fun j=>if j=i then u else f j:=by
 obtain⟨c,hb,hs,hc⟩:=h;refine⟨_,hb.set i u,by simpa using hs,fun j hj=> ?_⟩
 by_cases e:j=i
 · subst e
   simp[Array.getElem?_setIfInBounds,hs,hj]
 · show _=some (if j=i then u else f j)
   rw[if_neg e,Array.getElem?_setIfInBounds,if_neg (fun h=>e h.symm)];exact hc j hj
theorem Rg.other (h:Rg w b ty n f) {k i:Nat} (hk:b≠k) (u:Value):Rg (w.setCell ⟨k,i,none⟩ u) b ty n f:=by
 obtain⟨c,hb,hs,hc⟩:=h;exact⟨c,qEr hb hk,hs,hc⟩
theorem Rg.below (h:Rg w b ty n f) {B:Nat} (hb:Below B w v) (hB:b<B):Rg v b ty n f:=by
 obtain⟨c,h1,hs,hc⟩:=h;exact⟨c,qAx h1 hb hB,hs,hc⟩
theorem Rg.only (h:Rg w b ty n f) {k:Nat} (hk:Only k w v) (hb:b≠k):Rg v b ty n f:=by
 obtain⟨c,h1,hs,hc⟩:=h;exact⟨c,(hk.block b h1.lt fun e=>hb (by injection e)).trans h1,hs,hc⟩
theorem Rg.to (h:Rg w b ty n f) (hf:∀i,i<n→f i=g i):Rg w b ty n g:=by
 obtain⟨c,h1,hs,hc⟩:=h;exact⟨c,h1,hs,fun i hi=>by rw[←hf i hi];exact hc i hi⟩
theorem Rg.made (w:World) (z:Array Value) (k n:Nat) (hz:z.size=k) (hk:0<k):Rg (w.alloc (.cells (madeCells z (n*k)) ty)) w.heap.size ty (n*k) fun i=>z.getD (i % k) undef:=by
 refine⟨_,qA9 rfl,?_,fun i hi=> ?_⟩
 · simp[madeCells]
 · have hm:i % k<z.size:=by rw[hz];exact Nat.mod_lt _ hk
   simp[madeCells,hi,hz];rw[getElem!_pos z _ hm,Array.getElem?_eq_getElem hm]
   rfl
end
end Go.Proofs.YtelceoecekfamaaGreat
