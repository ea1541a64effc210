/-
Rfa
-/
import Derived.Test.YtelceoecekfamaaGreatQ24
import Derived.OwnWalk
set_option linter.unusedSimpArgs false
set_option linter.unusedVariables false
set_option maxRecDepth 100000
set_option maxHeartbeats 4000000
namespace Go.Proofs.YtelceoecekfamaaGreat
open Go.RowKit
theorem qGb (RU:RuleAny) (cs:List Value) (x:Mod) (j p:Nat) (D:Option Addr) (k g:Nat) (ts:List Typ) (w:World) (h:modL.R (·<w.heap.size) w cs x) (fn:Fn) (o ia ib:Int) (hc:checkN x=0) (hfn:x.funcs[j]? =some fn) (hin:fn.code[p]? =some (o,ia,ib)) (hk:ts.length=k) (sk:Sq typL (·<w.heap.size) w D ts) (bk:k≤1000) (bg:k≤g) (bg2:g≤9223372036854775807) (hrb:ruleB x fn (o,ia,ib) ts=none):Calls Tryz.prog 17 #[vAgg cs,.int .i64 (j:Int),.int .i64 (p:Int),.slice D k g] w (RFlows (insB8 x fn (o,ia,ib) p ts) w):=by
 refine jN ?_;intro q1 q2 q3 q4 hgood hnam hpl HFit;obtain⟨_,_,_,_,_,rfl,⟨A0,d0,e0,l0,m0,s0⟩,⟨A1,d1,e1,l1,m1,s1⟩,⟨A2,d2,e2,l2,m2,s2⟩,⟨A3,d3,e3,-⟩,⟨A4,d4,e4,-⟩⟩:=h;simp only[List.cons.injEq,and_true] at e0 e1 e2 e3 e4;subst e0 e1 e2 e3 e4;refine z9 ?_;intro n0 h0 n1 h1 n2 h2;rw[h0,h1,h2];generalize x.ints.length=n3 at*;generalize x.texts.length=n4 at*;obtain⟨a,ccs,ea,hab,hcl,hR⟩:=s1.at hfn;subst ea;obtain⟨p0,p1,p2,rfl,hr1,hr2,⟨P0,c0,e4,f0,f1,t0⟩,⟨P1,c1,e5,f2,f3,t1⟩,⟨P2,c2,e6,f4,f5,t2⟩⟩:=hR;simp only[List.cons.injEq,and_true] at e4 e5 e6;subst e4 e5 e6;obtain⟨b,ics,eb,hbb,hil,hiR⟩:=t2.at hin;subst eb;obtain⟨rfl,-,-,-⟩:=hiR;refine jP ?_;intro ua g0 ul g1 uc g2;rw[g0,g1,g2] at hcl;rw[g0] at q1;rw[g1] at q2;rw[g2] at q3 hpl;refine jJ ?_;intro HUC hpn hjn hn8 huc;refine jd ?_;intro SKv;have RUc:Hid (∀v,Below w.heap.size w v→Calls Tryz.prog 10 #[.agg #[.slice A0 n0 d0,.slice (some a) n1 d1,.slice A2 n2 d2,.slice A3 n3 d3,.slice A4 n4 d4],.agg #[.slice P0 ua c0,.int .i64 fn.ret.1,.int .i64 fn.ret.2,.slice P1 ul c1,.slice (some b) uc c2],.agg #[.int .i64 o,.int .i64 ia,.int .i64 ib],.slice D k g] v (Ruled (ruleB x fn (o,ia,ib) ts) v)):=fun v hb=>
  RU A0 (some a) A2 A3 A4 P0 P1 (some b) D n0 n1 n2 n3 n4 d0 d1 d2 d3 d4 ua ul uc c0 c1 c2 k g x fn ts o ia ib v
   ⟨h0,h1,h2,(s0.below hb (qAi _)).wide fun i hi=>qAh hi hb.size,(s1.below hb (qAi _)).wide fun i hi=>qAh hi hb.size,(s2.below hb (qAi _)).wide fun i hi=>qAh hi hb.size,g0,g1,(t0.below hb (qAi _)).wide fun i hi=>qAh hi hb.size,(t1.below hb (qAi _)).wide fun i hi=>qAh hi hb.size,⟨hr1,hr2⟩,hk,SKv.out v hb,by have:=HFit.out.r8;omega,by omega,by have:=HFit.out.i8;omega,by omega,by omega,bk⟩ hgood hnam bg bg2
 have HAts:=qAg sk.a64;have HK:=qAg hk;have HCL:Hid (∀v,Below w.heap.size w v→v.cell? (a.add (j*5))=some (.slice P0 ua c0)∧v.cell? ⟨(a.add (j*5)).block,(a.add (j*5)).off+1,none⟩=some (.int .i64 fn.ret.1)∧v.cell? ⟨(a.add (j*5)).block,(a.add (j*5)).off+2,none⟩=some (.int .i64 fn.ret.2)∧v.cell? ⟨(a.add (j*5)).block,(a.add (j*5)).off+3,none⟩=some (.slice P1 ul c1)∧v.cell? ⟨(a.add (j*5)).block,(a.add (j*5)).off+4,none⟩=some (.slice (some b) uc c2)∧v.cell? (b.add (p*3))=some (.int .i64 o)∧v.cell? ⟨(b.add (p*3)).block,(b.add (p*3)).off+1,none⟩=some (.int .i64 ia)∧v.cell? ⟨(b.add (p*3)).block,(b.add (p*3)).off+2,none⟩=some (.int .i64 ib)):=fun v hb=>by
  refine zw ?_;intro k0 k1 k2 k3 k4 i0 i1 i2;rw[qAm a (j*5) 1 (by omega)] at k1;rw[qAm a (j*5) 2 (by omega)] at k2;rw[qAm a (j*5) 3 (by omega)] at k3;rw[qAm a (j*5) 4 (by omega)] at k4;rw[qAm b (p*3) 1 (by omega)] at i1;rw[qAm b (p*3) 2 (by omega)] at i2;exact⟨k0,k1,k2,k3,k4,i0,i1,i2⟩
 show Calls Tryz.prog 17 #[.agg #[.slice A0 n0 d0,.slice (some a) n1 d1,.slice A2 n2 d2,.slice A3 n3 d3,.slice A4 n4 d4],.int .i64 (j:Int),.int .i64 (p:Int),.slice D k g] w (RFlows (insB8 x fn (o,ia,ib) p ts) w)
 rw[hrb] at RUc;have HV:=qAg (qJM (p:=p) hrb);clear hc hnam hgood hcl hil sk s0 s1 s2 h0 h1 h2 l0 l1 l2 m0 m1 m2 t0 t1 t2 f0 f1 f2 f3 f4 f5 g0 g1 g2 hfn hin hk q1 q2 q3 HFit hr1 hr2 hrb
 go_enter Tryz.func17,Tryz.ntmps17
 go_upto_region 1 with(fail)
 refine qAs fun U hU=> ?_;refine jB ?_;intro HBU HMU hsU;clear hU;obtain⟨x0,x1,x2,x3,x4⟩:=HMU.out;obtain⟨y0,y1,y2,y3,y4,y5,y6,y7⟩:=HCL.out U HBU.out
 go_upto_region 2 with(fail)
 refine qAs fun V hV=> ?_;refine jA ?_;intro HUV HFV hsV HBV
 try rw[hsU]
 clear hV x0 x1 x2 x3 x4 y0 y1 y2 y3 y4 y5 y6 y7;refine qAW ?_;intro v3 y5 y6 y7
 go_upto_region 3 with(fail)
 refine qAs fun W hW=> ?_;refine zu ?_;intro HVW HIW hsW HBW HFW HMW
 try rw[hsV]
 clear hW v3 y5 y6 y7;refine zv ?_;intro x0 x1 x2 x3 x4 v0 v1 v2 v3 v4 u0 u1 u2
 go_wp2_with (first
  |(go_at_call 10
    refine(RUc.out _ HBW.out).mono ?_;intro e w4 h4;obtain⟨rfl,hb4⟩:=qGV h4;have HW4:=qAg (HBW.out.trans (hb4.mono HBW.out.size));clear h4 hb4))
 go_ret3
 exact qBl HV.out HW4.out
theorem qHo (RU:RuleAny) (cs:List Value) (x:Mod) (j p:Nat) (D:Option Addr) (k g:Nat) (ts:List Typ) (w:World) (h:modL.R (·<w.heap.size) w cs x) (fn:Fn) (o ia ib:Int) (hc:checkN x=0) (hfn:x.funcs[j]? =some fn) (hin:fn.code[p]? =some (o,ia,ib)) (hk:ts.length=k) (sk:Sq typL (·<w.heap.size) w D ts) (bk:k≤1000) (bg:k≤g) (bg2:g≤9223372036854775807) (ins outs:List Typ) (hrb:ruleB x fn (o,ia,ib) ts=some (ins,outs)) (hlt:k<ins.length):Calls Tryz.prog 17 #[vAgg cs,.int .i64 (j:Int),.int .i64 (p:Int),.slice D k g] w (RFlows (insB8 x fn (o,ia,ib) p ts) w):=by
 refine jN ?_;intro q1 q2 q3 q4 hgood hnam hpl HFit;obtain⟨_,_,_,_,_,rfl,⟨A0,d0,e0,l0,m0,s0⟩,⟨A1,d1,e1,l1,m1,s1⟩,⟨A2,d2,e2,l2,m2,s2⟩,⟨A3,d3,e3,-⟩,⟨A4,d4,e4,-⟩⟩:=h;simp only[List.cons.injEq,and_true] at e0 e1 e2 e3 e4;subst e0 e1 e2 e3 e4;refine z9 ?_;intro n0 h0 n1 h1 n2 h2;rw[h0,h1,h2];generalize x.ints.length=n3 at*;generalize x.texts.length=n4 at*;obtain⟨a,ccs,ea,hab,hcl,hR⟩:=s1.at hfn;subst ea;obtain⟨p0,p1,p2,rfl,hr1,hr2,⟨P0,c0,e4,f0,f1,t0⟩,⟨P1,c1,e5,f2,f3,t1⟩,⟨P2,c2,e6,f4,f5,t2⟩⟩:=hR;simp only[List.cons.injEq,and_true] at e4 e5 e6;subst e4 e5 e6;obtain⟨b,ics,eb,hbb,hil,hiR⟩:=t2.at hin;subst eb;obtain⟨rfl,-,-,-⟩:=hiR;refine jP ?_;intro ua g0 ul g1 uc g2;rw[g0,g1,g2] at hcl;rw[g0] at q1;rw[g1] at q2;rw[g2] at q3 hpl;refine jJ ?_;intro HUC hpn hjn hn8 huc;refine jd ?_;intro SKv;have RUc:Hid (∀v,Below w.heap.size w v→Calls Tryz.prog 10 #[.agg #[.slice A0 n0 d0,.slice (some a) n1 d1,.slice A2 n2 d2,.slice A3 n3 d3,.slice A4 n4 d4],.agg #[.slice P0 ua c0,.int .i64 fn.ret.1,.int .i64 fn.ret.2,.slice P1 ul c1,.slice (some b) uc c2],.agg #[.int .i64 o,.int .i64 ia,.int .i64 ib],.slice D k g] v (Ruled (ruleB x fn (o,ia,ib) ts) v)):=fun v hb=>
  RU A0 (some a) A2 A3 A4 P0 P1 (some b) D n0 n1 n2 n3 n4 d0 d1 d2 d3 d4 ua ul uc c0 c1 c2 k g x fn ts o ia ib v
   ⟨h0,h1,h2,(s0.below hb (qAi _)).wide fun i hi=>qAh hi hb.size,(s1.below hb (qAi _)).wide fun i hi=>qAh hi hb.size,(s2.below hb (qAi _)).wide fun i hi=>qAh hi hb.size,g0,g1,(t0.below hb (qAi _)).wide fun i hi=>qAh hi hb.size,(t1.below hb (qAi _)).wide fun i hi=>qAh hi hb.size,⟨hr1,hr2⟩,hk,SKv.out v hb,by have:=HFit.out.r8;omega,by omega,by have:=HFit.out.i8;omega,by omega,by omega,bk⟩ hgood hnam bg bg2
 have HAts:=qAg sk.a64;have HK:=qAg hk;have HCL:Hid (∀v,Below w.heap.size w v→v.cell? (a.add (j*5))=some (.slice P0 ua c0)∧v.cell? ⟨(a.add (j*5)).block,(a.add (j*5)).off+1,none⟩=some (.int .i64 fn.ret.1)∧v.cell? ⟨(a.add (j*5)).block,(a.add (j*5)).off+2,none⟩=some (.int .i64 fn.ret.2)∧v.cell? ⟨(a.add (j*5)).block,(a.add (j*5)).off+3,none⟩=some (.slice P1 ul c1)∧v.cell? ⟨(a.add (j*5)).block,(a.add (j*5)).off+4,none⟩=some (.slice (some b) uc c2)∧v.cell? (b.add (p*3))=some (.int .i64 o)∧v.cell? ⟨(b.add (p*3)).block,(b.add (p*3)).off+1,none⟩=some (.int .i64 ia)∧v.cell? ⟨(b.add (p*3)).block,(b.add (p*3)).off+2,none⟩=some (.int .i64 ib)):=fun v hb=>by
  refine zw ?_;intro k0 k1 k2 k3 k4 i0 i1 i2;rw[qAm a (j*5) 1 (by omega)] at k1;rw[qAm a (j*5) 2 (by omega)] at k2;rw[qAm a (j*5) 3 (by omega)] at k3;rw[qAm a (j*5) 4 (by omega)] at k4;rw[qAm b (p*3) 1 (by omega)] at i1;rw[qAm b (p*3) 2 (by omega)] at i2;exact⟨k0,k1,k2,k3,k4,i0,i1,i2⟩
 show Calls Tryz.prog 17 #[.agg #[.slice A0 n0 d0,.slice (some a) n1 d1,.slice A2 n2 d2,.slice A3 n3 d3,.slice A4 n4 d4],.int .i64 (j:Int),.int .i64 (p:Int),.slice D k g] w (RFlows (insB8 x fn (o,ia,ib) p ts) w)
 refine j5 ?_;intro n hn m hm hnm;rw[hn,hm] at hnm;obtain⟨hn8',hm8⟩:=hnm;rw[hrb] at RUc;have HN:=qAg hn;have HM:=qAg hm;have HV:=qAg (qE6 (p:=p) hrb (qB7 (by rw[HK.out];exact hlt)));rw[hn] at hlt;have e1:IntKind.i64.wrap ((k:Int)-(n:Int))=(k:Int)-(n:Int):=by rw[qAv];omega
 have e2:(k:Int)-(n:Int)<0:=by omega
 have e3:decide ((k:Int)-(n:Int)<0)=true:=by simp;omega
 clear hc hnam hgood hcl hil sk s0 s1 s2 h0 h1 h2 l0 l1 l2 m0 m1 m2 t0 t1 t2 f0 f1 f2 f3 f4 f5 g0 g1 g2 hfn hin hk q1 q2 q3 HFit hr1 hr2 hrb hn hm hlt
 go_enter Tryz.func17,Tryz.ntmps17
 go_upto_region 1 with(fail)
 refine qAs fun U hU=> ?_;refine jB ?_;intro HBU HMU hsU;clear hU;obtain⟨x0,x1,x2,x3,x4⟩:=HMU.out;obtain⟨y0,y1,y2,y3,y4,y5,y6,y7⟩:=HCL.out U HBU.out
 go_upto_region 2 with(fail)
 refine qAs fun V hV=> ?_;refine jA ?_;intro HUV HFV hsV HBV
 try rw[hsU]
 clear hV x0 x1 x2 x3 x4 y0 y1 y2 y3 y4 y5 y6 y7;refine qAW ?_;intro v3 y5 y6 y7
 go_upto_region 3 with(fail)
 refine qAs fun W hW=> ?_;refine zu ?_;intro HVW HIW hsW HBW HFW HMW
 try rw[hsV]
 clear hW v3 y5 y6 y7;refine zv ?_;intro x0 x1 x2 x3 x4 v0 v1 v2 v3 v4 u0 u1 u2
 go_wp2_with (first
  |(go_at_call 10
    refine(RUc.out _ HBW.out).mono ?_;intro e w4 h4;obtain⟨hb4,A9,c9,B9,d9,he4,s9,s8⟩:=qBv h4;rw[HN.out,HM.out] at he4;subst he4;refine jr ?_;intro HB4 HW4 hs4 S9 S8;clear h4 hb4 s9 s8 x0 x1 x2 x3 x4 v0 v1 v2 v3 v4 u0 u1 u2))
 go_ret3
 exact qBl HV.out HW4.out
theorem qGc (RU:RuleAny) (cs:List Value) (x:Mod) (j p:Nat) (D:Option Addr) (k g:Nat) (ts:List Typ) (w:World) (h:modL.R (·<w.heap.size) w cs x) (fn:Fn) (o ia ib:Int) (hc:checkN x=0) (hfn:x.funcs[j]? =some fn) (hin:fn.code[p]? =some (o,ia,ib)) (hk:ts.length=k) (sk:Sq typL (·<w.heap.size) w D ts) (bk:k≤1000) (bg:k≤g) (bg2:g≤9223372036854775807) (ins outs:List Typ) (hrb:ruleB x fn (o,ia,ib) ts=some (ins,outs)) (hle:ins.length≤k) (h8:8<k-ins.length+outs.length):Calls Tryz.prog 17 #[vAgg cs,.int .i64 (j:Int),.int .i64 (p:Int),.slice D k g] w (RFlows (insB8 x fn (o,ia,ib) p ts) w):=by
 refine jN ?_;intro q1 q2 q3 q4 hgood hnam hpl HFit;obtain⟨_,_,_,_,_,rfl,⟨A0,d0,e0,l0,m0,s0⟩,⟨A1,d1,e1,l1,m1,s1⟩,⟨A2,d2,e2,l2,m2,s2⟩,⟨A3,d3,e3,-⟩,⟨A4,d4,e4,-⟩⟩:=h;simp only[List.cons.injEq,and_true] at e0 e1 e2 e3 e4;subst e0 e1 e2 e3 e4;refine z9 ?_;intro n0 h0 n1 h1 n2 h2;rw[h0,h1,h2];generalize x.ints.length=n3 at*;generalize x.texts.length=n4 at*;obtain⟨a,ccs,ea,hab,hcl,hR⟩:=s1.at hfn;subst ea;obtain⟨p0,p1,p2,rfl,hr1,hr2,⟨P0,c0,e4,f0,f1,t0⟩,⟨P1,c1,e5,f2,f3,t1⟩,⟨P2,c2,e6,f4,f5,t2⟩⟩:=hR;simp only[List.cons.injEq,and_true] at e4 e5 e6;subst e4 e5 e6;obtain⟨b,ics,eb,hbb,hil,hiR⟩:=t2.at hin;subst eb;obtain⟨rfl,-,-,-⟩:=hiR;refine jP ?_;intro ua g0 ul g1 uc g2;rw[g0,g1,g2] at hcl;rw[g0] at q1;rw[g1] at q2;rw[g2] at q3 hpl;refine jJ ?_;intro HUC hpn hjn hn8 huc;refine jd ?_;intro SKv;have RUc:Hid (∀v,Below w.heap.size w v→Calls Tryz.prog 10 #[.agg #[.slice A0 n0 d0,.slice (some a) n1 d1,.slice A2 n2 d2,.slice A3 n3 d3,.slice A4 n4 d4],.agg #[.slice P0 ua c0,.int .i64 fn.ret.1,.int .i64 fn.ret.2,.slice P1 ul c1,.slice (some b) uc c2],.agg #[.int .i64 o,.int .i64 ia,.int .i64 ib],.slice D k g] v (Ruled (ruleB x fn (o,ia,ib) ts) v)):=fun v hb=>
  RU A0 (some a) A2 A3 A4 P0 P1 (some b) D n0 n1 n2 n3 n4 d0 d1 d2 d3 d4 ua ul uc c0 c1 c2 k g x fn ts o ia ib v
   ⟨h0,h1,h2,(s0.below hb (qAi _)).wide fun i hi=>qAh hi hb.size,(s1.below hb (qAi _)).wide fun i hi=>qAh hi hb.size,(s2.below hb (qAi _)).wide fun i hi=>qAh hi hb.size,g0,g1,(t0.below hb (qAi _)).wide fun i hi=>qAh hi hb.size,(t1.below hb (qAi _)).wide fun i hi=>qAh hi hb.size,⟨hr1,hr2⟩,hk,SKv.out v hb,by have:=HFit.out.r8;omega,by omega,by have:=HFit.out.i8;omega,by omega,by omega,bk⟩ hgood hnam bg bg2
 have HAts:=qAg sk.a64;have HK:=qAg hk;have HCL:Hid (∀v,Below w.heap.size w v→v.cell? (a.add (j*5))=some (.slice P0 ua c0)∧v.cell? ⟨(a.add (j*5)).block,(a.add (j*5)).off+1,none⟩=some (.int .i64 fn.ret.1)∧v.cell? ⟨(a.add (j*5)).block,(a.add (j*5)).off+2,none⟩=some (.int .i64 fn.ret.2)∧v.cell? ⟨(a.add (j*5)).block,(a.add (j*5)).off+3,none⟩=some (.slice P1 ul c1)∧v.cell? ⟨(a.add (j*5)).block,(a.add (j*5)).off+4,none⟩=some (.slice (some b) uc c2)∧v.cell? (b.add (p*3))=some (.int .i64 o)∧v.cell? ⟨(b.add (p*3)).block,(b.add (p*3)).off+1,none⟩=some (.int .i64 ia)∧v.cell? ⟨(b.add (p*3)).block,(b.add (p*3)).off+2,none⟩=some (.int .i64 ib)):=fun v hb=>by
  refine zw ?_;intro k0 k1 k2 k3 k4 i0 i1 i2;rw[qAm a (j*5) 1 (by omega)] at k1;rw[qAm a (j*5) 2 (by omega)] at k2;rw[qAm a (j*5) 3 (by omega)] at k3;rw[qAm a (j*5) 4 (by omega)] at k4;rw[qAm b (p*3) 1 (by omega)] at i1;rw[qAm b (p*3) 2 (by omega)] at i2;exact⟨k0,k1,k2,k3,k4,i0,i1,i2⟩
 show Calls Tryz.prog 17 #[.agg #[.slice A0 n0 d0,.slice (some a) n1 d1,.slice A2 n2 d2,.slice A3 n3 d3,.slice A4 n4 d4],.int .i64 (j:Int),.int .i64 (p:Int),.slice D k g] w (RFlows (insB8 x fn (o,ia,ib) p ts) w)
 refine j5 ?_;intro n hn m hm hnm;rw[hn,hm] at hnm;obtain⟨hn8',hm8⟩:=hnm;rw[hrb] at RUc;have HN:=qAg hn;have HM:=qAg hm;have HV:=qAg (qE6 (p:=p) hrb (qDB rfl (by rw[HK.out];exact h8)));rw[hn] at hle h8;rw[hm] at h8;obtain⟨q,hq⟩:∃q:Nat,k-n=q:=⟨_,rfl⟩;rw[hq] at h8;have e1:(k:Int)-(n:Int)=(q:Int):=by omega
 have e2:decide ((q:Int)<0)=false:=by simp
 have e3:IntKind.i64.wrap ((q:Int)+(m:Int))=(q:Int)+(m:Int):=by rw[qAv];omega
 have e4:(8:Int)<(q:Int)+(m:Int):=by omega
 have e5:decide ((8:Int)<(q:Int)+(m:Int))=true:=by simp;omega
 clear hc hnam hgood hcl hil sk s0 s1 s2 h0 h1 h2 l0 l1 l2 m0 m1 m2 t0 t1 t2 f0 f1 f2 f3 f4 f5 g0 g1 g2 hfn hin hk q1 q2 q3 HFit hr1 hr2 hrb hn hm hle hq
 go_enter Tryz.func17,Tryz.ntmps17
 go_upto_region 1 with(fail)
 refine qAs fun U hU=> ?_;refine jB ?_;intro HBU HMU hsU;clear hU;obtain⟨x0,x1,x2,x3,x4⟩:=HMU.out;obtain⟨y0,y1,y2,y3,y4,y5,y6,y7⟩:=HCL.out U HBU.out
 go_upto_region 2 with(fail)
 refine qAs fun V hV=> ?_;refine jA ?_;intro HUV HFV hsV HBV
 try rw[hsU]
 clear hV x0 x1 x2 x3 x4 y0 y1 y2 y3 y4 y5 y6 y7;refine qAW ?_;intro v3 y5 y6 y7
 go_upto_region 3 with(fail)
 refine qAs fun W hW=> ?_;refine zu ?_;intro HVW HIW hsW HBW HFW HMW
 try rw[hsV]
 clear hW v3 y5 y6 y7;refine zv ?_;intro x0 x1 x2 x3 x4 v0 v1 v2 v3 v4 u0 u1 u2
 go_wp2_with (first
  |(go_at_call 10
    refine(RUc.out _ HBW.out).mono ?_;intro e w4 h4;obtain⟨hb4,A9,c9,B9,d9,he4,s9,s8⟩:=qBv h4;rw[HN.out,HM.out] at he4;subst he4;refine jr ?_;intro HB4 HW4 hs4 S9 S8;clear h4 hb4 s9 s8 x0 x1 x2 x3 x4 v0 v1 v2 v3 v4 u0 u1 u2))
 go_ret3
 exact qBl HV.out HW4.out
end Go.Proofs.YtelceoecekfamaaGreat
