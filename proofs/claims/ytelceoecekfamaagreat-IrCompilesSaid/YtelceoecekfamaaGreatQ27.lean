/-
Rfn
-/
import Derived.Test.YtelceoecekfamaaGreatQ24
import Derived.OwnWalk
import Derived.Lib.QuietBelow
import Derived.BigQuiet
import Derived.Deep.RegionHeld3
set_option linter.unusedSimpArgs false
set_option linter.unusedVariables false
set_option maxRecDepth 100000
set_option maxHeartbeats 8000000
namespace Go.Proofs.YtelceoecekfamaaGreat
open Go.RowKit
theorem qHn (RU:RuleAny) (cs:List Value) (x:Mod) (j p:Nat)  (k g:Nat) (ts:List Typ) (w:World) (h:modL.R (·<w.heap.size) w cs x) (fn:Fn) (o ia ib:Int) (hc:checkN x=0) (hfn:x.funcs[j]? =some fn) (hin:fn.code[p]? =some (o,ia,ib)) (hk:ts.length=k) (sk:Sq typL (·<w.heap.size) w none ts) (bk:k≤1000) (bg:k≤g) (bg2:g≤9223372036854775807) (hg0:g=0) (ins outs:List Typ) (hrb:ruleB x fn (o,ia,ib) ts=some (ins,outs)) (hle:ins.length≤k) (h8:k-ins.length+outs.length≤8):Calls Tryz.prog 17 #[vAgg cs,.int .i64 (j:Int),.int .i64 (p:Int),.slice none k g] w (RFlows (insB8 x fn (o,ia,ib) p ts) w):=by
 refine jN ?_;intro q1 q2 q3 q4 hgood hnam hpl HFit;obtain⟨_,_,_,_,_,rfl,⟨A0,d0,e0,l0,m0,s0⟩,⟨A1,d1,e1,l1,m1,s1⟩,⟨A2,d2,e2,l2,m2,s2⟩,⟨A3,d3,e3,-⟩,⟨A4,d4,e4,-⟩⟩:=h;simp only[List.cons.injEq,and_true] at e0 e1 e2 e3 e4;subst e0 e1 e2 e3 e4;refine z9 ?_;intro n0 h0 n1 h1 n2 h2;rw[h0,h1,h2];generalize x.ints.length=n3 at*;generalize x.texts.length=n4 at*;obtain⟨a,ccs,ea,hab,hcl,hR⟩:=s1.at hfn;subst ea;obtain⟨p0,p1,p2,rfl,hr1,hr2,⟨P0,c0,e4,f0,f1,t0⟩,⟨P1,c1,e5,f2,f3,t1⟩,⟨P2,c2,e6,f4,f5,t2⟩⟩:=hR;simp only[List.cons.injEq,and_true] at e4 e5 e6;subst e4 e5 e6;obtain⟨b,ics,eb,hbb,hil,hiR⟩:=t2.at hin;subst eb;obtain⟨rfl,-,-,-⟩:=hiR;refine jP ?_;intro ua g0 ul g1 uc g2;rw[g0,g1,g2] at hcl;rw[g0] at q1;rw[g1] at q2;rw[g2] at q3 hpl;refine jJ ?_;intro HUC hpn hjn hn8 huc;have SKv:Hid (∀v,Below w.heap.size w v→Sq typL (·<v.heap.size) v none ts):=fun v hb=>(sk.below hb (qAi _)).wide fun i hi=>qAh hi hb.size;have RUc:Hid (∀v,Below w.heap.size w v→Calls Tryz.prog 10 #[.agg #[.slice A0 n0 d0,.slice (some a) n1 d1,.slice A2 n2 d2,.slice A3 n3 d3,.slice A4 n4 d4],.agg #[.slice P0 ua c0,.int .i64 fn.ret.1,.int .i64 fn.ret.2,.slice P1 ul c1,.slice (some b) uc c2],.agg #[.int .i64 o,.int .i64 ia,.int .i64 ib],.slice none k g] v (Ruled (ruleB x fn (o,ia,ib) ts) v)):=fun v hb=>
  RU A0 (some a) A2 A3 A4 P0 P1 (some b) none n0 n1 n2 n3 n4 d0 d1 d2 d3 d4 ua ul uc c0 c1 c2 k g x fn ts o ia ib v
   ⟨h0,h1,h2,(s0.below hb (qAi _)).wide fun i hi=>qAh hi hb.size,(s1.below hb (qAi _)).wide fun i hi=>qAh hi hb.size,(s2.below hb (qAi _)).wide fun i hi=>qAh hi hb.size,g0,g1,(t0.below hb (qAi _)).wide fun i hi=>qAh hi hb.size,(t1.below hb (qAi _)).wide fun i hi=>qAh hi hb.size,⟨hr1,hr2⟩,hk,SKv.out v hb,by have:=HFit.out.r8;omega,by omega,by have:=HFit.out.i8;omega,by omega,by omega,bk⟩ hgood hnam bg bg2
 have HAts:=qAg sk.a64;have HK:=qAg hk;have HCL:Hid (∀v,Below w.heap.size w v→v.cell? (a.add (j*5))=some (.slice P0 ua c0)∧v.cell? ⟨(a.add (j*5)).block,(a.add (j*5)).off+1,none⟩=some (.int .i64 fn.ret.1)∧v.cell? ⟨(a.add (j*5)).block,(a.add (j*5)).off+2,none⟩=some (.int .i64 fn.ret.2)∧v.cell? ⟨(a.add (j*5)).block,(a.add (j*5)).off+3,none⟩=some (.slice P1 ul c1)∧v.cell? ⟨(a.add (j*5)).block,(a.add (j*5)).off+4,none⟩=some (.slice (some b) uc c2)∧v.cell? (b.add (p*3))=some (.int .i64 o)∧v.cell? ⟨(b.add (p*3)).block,(b.add (p*3)).off+1,none⟩=some (.int .i64 ia)∧v.cell? ⟨(b.add (p*3)).block,(b.add (p*3)).off+2,none⟩=some (.int .i64 ib)):=fun v hb=>by
  refine zw ?_;intro k0 k1 k2 k3 k4 i0 i1 i2;rw[qAm a (j*5) 1 (by omega)] at k1;rw[qAm a (j*5) 2 (by omega)] at k2;rw[qAm a (j*5) 3 (by omega)] at k3;rw[qAm a (j*5) 4 (by omega)] at k4;rw[qAm b (p*3) 1 (by omega)] at i1;rw[qAm b (p*3) 2 (by omega)] at i2;exact⟨k0,k1,k2,k3,k4,i0,i1,i2⟩
 show Calls Tryz.prog 17 #[.agg #[.slice A0 n0 d0,.slice (some a) n1 d1,.slice A2 n2 d2,.slice A3 n3 d3,.slice A4 n4 d4],.int .i64 (j:Int),.int .i64 (p:Int),.slice none k g] w (RFlows (insB8 x fn (o,ia,ib) p ts) w)
 refine j5 ?_;intro n hn m hm hnm;rw[hn,hm] at hnm;obtain⟨hn8',hm8⟩:=hnm;rw[hrb] at RUc;refine jC ?_;intro HN HM HNB HMV HV1 HV2 N26 N23 NL N24 ND;rw[hn] at hle h8 HNB HMV;rw[hm] at h8;obtain⟨q,hq⟩:∃q:Nat,k-n=q:=⟨_,rfl⟩;rw[hq] at h8;refine jh ?_;intro HQ e1 e2 e3 e4 e5 e6 e7 hp64 hwp;have hk0:k=0:=Classical.byContradiction fun h9=>by obtain⟨a9,e9,-⟩:=sk (by omega);cases e9
 obtain rfl:q=0:=by omega
 obtain rfl:n=0:=by omega
 obtain rfl:ts=[]:=qA4 (by omega);subst hk0 hg0;clear hc hnam hgood hcl hil sk s0 s1 s2 h0 h1 h2 l0 l1 l2 m0 m1 m2 t0 t1 t2 f0 f1 f2 f3 f4 f5 g0 g1 g2 hfn hin hk q1 q2 q3 HFit hr1 hr2 hrb hn hm hle hq;generalize hr8:insB8 x fn (o,ia,ib) p []=r8 at*;clear hr8
 go_enter Tryz.func17,Tryz.ntmps17
 go_upto_region 1 with(fail)
 refine qAs fun U hU=> ?_;refine jB ?_;intro HBU HMU hsU;clear hU;obtain⟨x0,x1,x2,x3,x4⟩:=HMU.out;obtain⟨y0,y1,y2,y3,y4,y5,y6,y7⟩:=HCL.out U HBU.out
 go_upto_region 2 with(fail)
 refine qAs fun V hV=> ?_;refine jA ?_;intro HUV HFV hsV HBV
 try rw[hsU]
 clear hV x0 x1 x2 x3 x4 y0 y1 y2 y3 y4 y5 y6 y7;refine qAW ?_;intro v3 y5 y6 y7
 go_upto_region 3 with(fail)
 refine qAs fun W hW=> ?_;refine zu ?_;intro HVW HIW hsW HBW HFW HMW
 try rw[hsV]
 clear hW v3 y5 y6 y7;refine zv ?_;intro x0 x1 x2 x3 x4 v0 v1 v2 v3 v4 u0 u1 u2
 go_upto_region 8 with(first
  |(go_at_call 10
    refine(RUc.out _ HBW.out).mono ?_;intro e w4 h4;obtain⟨hb4,A9,c9,B9,d9,he4,s9,s8⟩:=qBv h4;rw[HN.out,HM.out] at he4;subst he4;refine jr ?_;intro HB4 HW4 hs4 S9 S8;clear h4 hb4 s9 s8 x0 x1 x2 x3 x4 v0 v1 v2 v3 v4 u0 u1 u2))
 go_loopw [17] (fun i wr=>∃s:Nat,s≤0∧i= .int .i64 (s:Nat)∧belowT ((([]:List Typ).drop 0).take s) (ins.take s)=true∧Below w4.heap.size w4 wr) (fun i _=>0-(intOf i).toNat)
 case atStart=>exact⟨0,qAq _,rfl,by simp[belowT],qAk _ _⟩
 case round=>
  obtain⟨s,hs,rfl,heq,hbel⟩:=hrel;have HE:=qAg heq;have HB:=qAg hbel;have HWr:=qAg (HW4.out.trans (hbel.mono HW4.out.size));have hsr:=hbel.size;clear heq hbel
  by_cases hlt:s<0
  · omega
  · obtain rfl:s=0:=by omega
    have HBT:Hid (belowT (([]:List Typ).drop 0) ins=true):=by
     have e:=HE.out;rw[qAn (by simp),qAn (by rw[HN.out];exact qAi _)] at e;exact e
    have HM1:Hid (movB [] ins outs=some (([]:List Typ)++outs)):=HMV.out 0 rfl HBT.out;have HA6:Hid (A64 (([]:List Typ)++outs)):=(A64.nil.app S8.out.a64);have HOE:=qAg (qBa wr);have hsz:w.heap.size≤wr.heap.size:=HWr.out.size;clear hlt HE
    go_upto_region 13 with(first
     |(at_builtin
       refine qBD _ rfl (.tmp 74) (.tmp 77) rfl wr.heap.size (.slice (some ⟨wr.heap.size,0,none⟩) 0 0) 0 [] rfl HOE.out none 0 0 [] rfl rfl (·<wr.heap.size) (Sq.nil _ _ _ _) (by omega) (by simp) ?_;intro v5 w5 hown5 hg5 _;have HB5:=qAg ((qAo wr _).grown hg5 (by simp) (fun i hi=>(HOE.out.lt i hi).1));have HO5:=qAg hown5;have hs5:=HB5.out.size;clear hown5 hg5)
     |(at_builtin
       refine qBD _ rfl (.tmp 78) (.tmp 79) rfl wr.heap.size v5 (0+0) ([]++([]:List Typ)) rfl HO5.out B9 m d9 outs rfl HM.out (·<w4.heap.size) ((S8.out.below HB.out (qAi _)).below HB5.out hsr) (by omega) hs5 ?_;intro v6 w6 hown6 hg6 _;have HB6:=qAg (HB5.out.grown hg6 hs5 (fun i hi=>(HO5.out.lt i hi).1));have HO6:=qAg hown6;have hs6:=HB6.out.size;clear hown6 hg6))
    refine jF ?_;intro HW6 hws HF6 HI6 u0 u1 v4 HU1 h66 HCI
    by_cases h26:o=26
    · exact zU
    have e26:(o==26)=false:=by simpa using h26
    by_cases h23:o=23
    · exact qQ
    have e23:(o==23)=false:=by simpa using h23
    by_cases hlen:uc≤p+1
    · exact zM
    have el:¬(uc:Int)≤(p:Int)+1:=by omega
    by_cases h24:o=24
    · exact qP
    have e24:(o==24)=false:=by simpa using h24
    have HN2:=qAg (ND.out h26 h23 h24 hlen)
    go_wp2_with fail
    go_ret3
    exact qCY (cs:= #[.int .i64 ((p:Int)+1)]) (HV2.out _ _ HM1.out HN2.out) HO6.out HA6.out HW6.out HWr.out.size (qAo w6 _) (by(repeat(first|((with_reducible refine qA9 ?_);simp;done)|with_reducible refine qBG ?_|with_reducible refine qCy ?_))) (by have:=HW6.out.size;first|exact this|(simp;omega)) rfl rfl
end Go.Proofs.YtelceoecekfamaaGreat
