/-
Rfl
-/
import Derived.Test.YtconajaecpgjgaaGreatT31
import Derived.OwnWalk
import Derived.Lib.QuietBelow
import Derived.BigQuiet
import Derived.Deep.RegionHeld3
set_option linter.unusedSimpArgs false
set_option linter.unusedVariables false
set_option maxRecDepth 100000
set_option maxHeartbeats 8000000
namespace Go.Proofs.YtconajaecpgjgaaGreat
open Go.RowKit
theorem qr {P:Prop} (h:P:=by
 have HN2:=qAZ (N24.out h24 hlen)
 subst h24
 go_wp2_with fail
 go_region_held3 (fun v=>v.cell? ⟨w.heap.size+2,1,none⟩=some (.int .i64 ia))
  (first|exact HU1.out|exact HCI.out _ (qAe _ w6).drew|exact HCI.out _ (qAj w6 _)|exact HCI.out _ (qAj w6 _).drew)
  (fail)
 all_goals
  go_wp2_with fail
  go_ret3
  exact qCt (cs:= #[.int .i64 ((p:Int)+1),.int .i64 ia]) (HV2.out _ _ HM1.out HN2.out) HO6.out HA6.out HW6.out HWr.out.size (by first|exact(qAj w6 _).drew|exact qAj w6 _) (by(repeat(first|((with_reducible refine qAm ?_);simp;done)|with_reducible refine qAd ?_|with_reducible refine qAy ?_))) (by have:=HW6.out.size;first|exact this|(simp;omega)) rfl rfl):P:=h
theorem qu {P:Prop} (h:P:=by
 have HN2:=qAZ (N23.out h23)
 subst h23
 go_wp2_with fail
 go_region_held3 (fun v=>v.cell? ⟨w.heap.size+2,1,none⟩=some (.int .i64 ia))
  (first|exact HU1.out|exact HCI.out _ (qAe _ w6).drew|exact HCI.out _ (qAj w6 _)|exact HCI.out _ (qAj w6 _).drew)
  (fail)
 all_goals
  go_wp2_with fail
  go_ret3
  exact qCt (cs:= #[.int .i64 ia]) (HV2.out _ _ HM1.out HN2.out) HO6.out HA6.out HW6.out HWr.out.size (by first|exact(qAj w6 _).drew|exact qAj w6 _) (by(repeat(first|((with_reducible refine qAm ?_);simp;done)|with_reducible refine qAd ?_|with_reducible refine qAy ?_))) (by have:=HW6.out.size;first|exact this|(simp;omega)) rfl rfl):P:=h
theorem jq {P:Prop} (h:P:=by
 have HN2:=qAZ (NL.out h26 h23 hlen)
 have el:(uc:Int)≤(p:Int)+1:=by omega
 go_wp2_with fail
 go_ret3
 exact qB5 (HV1.out _ HM1.out HN2.out) HW6.out):P:=h
theorem jy {P:Prop} (h:P:=by
 have HN2:=qAZ (N26.out h26)
 subst h26
 go_wp2_with fail
 go_ret3
 exact qGL (HV2.out _ _ HM1.out HN2.out) HO6.out HA6.out HW6.out HWr.out.size):P:=h
theorem qGO (RU:RuleAny) (cs:List Value) (x:Mod) (j p:Nat) (aD:Addr) (k g:Nat) (ts:List Typ) (w:World) (h:modL.R (·<w.heap.size) w cs x) (fn:Fn) (o ia ib:Int) (hc:checkN x=0) (hfn:x.funcs[j]? =some fn) (hin:fn.code[p]? =some (o,ia,ib)) (hk:ts.length=k) (sk:Sq typL (·<w.heap.size) w (some aD) ts) (bk:k≤1000) (bg:k≤g) (bg2:g≤9223372036854775807) (ins outs:List Typ) (hrb:ruleB x fn (o,ia,ib) ts=some (ins,outs)) (hle:ins.length≤k) (h8:k-ins.length+outs.length≤8):Calls Tryz.prog 25 #[vAgg cs,.int .i64 (j:Int),.int .i64 (p:Int),.slice (some aD) k g] w (RFlows (insB8 x fn (o,ia,ib) p ts) w):=by
 obtain⟨q1,q2,q3,q4⟩:=qBf hc (qAk hfn)
 obtain⟨hgood,hnam⟩:=q4 _ (qAk hin)
 have hpl:=(qAh.1 hin).1
 have HFit:=qAZ (qBJ.1 (qBI hc))
 obtain⟨_,_,_,_,_,rfl,⟨A0,d0,e0,l0,m0,s0⟩,⟨A1,d1,e1,l1,m1,s1⟩,⟨A2,d2,e2,l2,m2,s2⟩,⟨A3,d3,e3,-⟩,⟨A4,d4,e4,-⟩⟩:=h
 simp only[List.cons.injEq,and_true] at e0 e1 e2 e3 e4
 subst e0 e1 e2 e3 e4
 obtain⟨n0,h0⟩:∃n,x.recs.length=n:=⟨_,rfl⟩
 obtain⟨n1,h1⟩:∃n,x.funcs.length=n:=⟨_,rfl⟩
 obtain⟨n2,h2⟩:∃n,x.imps.length=n:=⟨_,rfl⟩
 rw[h0,h1,h2]
 generalize x.ints.length=n3 at*
 generalize x.texts.length=n4 at*
 obtain⟨a,ccs,ea,hab,hcl,hR⟩:=s1.at hfn
 subst ea
 obtain⟨p0,p1,p2,rfl,hr1,hr2,⟨P0,c0,e4,f0,f1,t0⟩,⟨P1,c1,e5,f2,f3,t1⟩,⟨P2,c2,e6,f4,f5,t2⟩⟩:=hR
 simp only[List.cons.injEq,and_true] at e4 e5 e6
 subst e4 e5 e6
 obtain⟨b,ics,eb,hbb,hil,hiR⟩:=t2.at hin
 subst eb
 obtain⟨rfl,-,-,-⟩:=hiR
 obtain⟨ua,g0⟩:∃n,fn.args.length=n:=⟨_,rfl⟩
 obtain⟨ul,g1⟩:∃n,fn.locs.length=n:=⟨_,rfl⟩
 obtain⟨uc,g2⟩:∃n,fn.code.length=n:=⟨_,rfl⟩
 rw[g0,g1,g2] at hcl
 rw[g0] at q1
 rw[g1] at q2
 rw[g2] at q3 hpl
 have HUC:=qAZ g2
 have hpn:(p:Int)<(uc:Int):=by omega
 have hjn:(j:Int)<(n1:Int):=by have:=(qAh.1 hfn).1;omega
 have hn8:n1≤8:=by have:=HFit.out.f8;omega
 have huc:uc≤64:=by omega
 have SKv:Hid (∀v,Below w.heap.size w v→Sq typL (·<v.heap.size) v (some aD) ts):=fun v hb=>(sk.below hb (qAf _)).wide fun i hi=>qAg hi hb.size
 have RUc:Hid (∀v,Below w.heap.size w v→Calls Tryz.prog 54 #[.agg #[.slice A0 n0 d0,.slice (some a) n1 d1,.slice A2 n2 d2,.slice A3 n3 d3,.slice A4 n4 d4],.agg #[.slice P0 ua c0,.int .i64 fn.ret.1,.int .i64 fn.ret.2,.slice P1 ul c1,.slice (some b) uc c2],.agg #[.int .i64 o,.int .i64 ia,.int .i64 ib],.slice (some aD) k g] v (Ruled (ruleB x fn (o,ia,ib) ts) v)):=fun v hb=>
  RU A0 (some a) A2 A3 A4 P0 P1 (some b) (some aD) n0 n1 n2 n3 n4 d0 d1 d2 d3 d4 ua ul uc c0 c1 c2 k g x fn ts o ia ib v
   ⟨h0,h1,h2,(s0.below hb (qAf _)).wide fun i hi=>qAg hi hb.size,(s1.below hb (qAf _)).wide fun i hi=>qAg hi hb.size,(s2.below hb (qAf _)).wide fun i hi=>qAg hi hb.size,g0,g1,(t0.below hb (qAf _)).wide fun i hi=>qAg hi hb.size,(t1.below hb (qAf _)).wide fun i hi=>qAg hi hb.size,⟨hr1,hr2⟩,hk,SKv.out v hb,by have:=HFit.out.r8;omega,by omega,by have:=HFit.out.i8;omega,by omega,by omega,bk⟩ hgood hnam bg bg2
 have HAts:=qAZ sk.a64
 have HSK:=qAZ sk
 have HK:=qAZ hk
 have HCL:Hid (∀v,Below w.heap.size w v→v.cell? (a.add (j*5))=some (.slice P0 ua c0)∧v.cell? ⟨(a.add (j*5)).block,(a.add (j*5)).off+1,none⟩=some (.int .i64 fn.ret.1)∧v.cell? ⟨(a.add (j*5)).block,(a.add (j*5)).off+2,none⟩=some (.int .i64 fn.ret.2)∧v.cell? ⟨(a.add (j*5)).block,(a.add (j*5)).off+3,none⟩=some (.slice P1 ul c1)∧v.cell? ⟨(a.add (j*5)).block,(a.add (j*5)).off+4,none⟩=some (.slice (some b) uc c2)∧v.cell? (b.add (p*3))=some (.int .i64 o)∧v.cell? ⟨(b.add (p*3)).block,(b.add (p*3)).off+1,none⟩=some (.int .i64 ia)∧v.cell? ⟨(b.add (p*3)).block,(b.add (p*3)).off+2,none⟩=some (.int .i64 ib)):=fun v hb=>by
  have k0:=(hb.cell (p:=a.add (j*5)) qE).trans (hcl 0 _ rfl)
  have k1:=(hb.cell (p:=a.add (j*5+1)) qE).trans (hcl 1 _ rfl)
  have k2:=(hb.cell (p:=a.add (j*5+2)) qE).trans (hcl 2 _ rfl)
  have k3:=(hb.cell (p:=a.add (j*5+3)) qE).trans (hcl 3 _ rfl)
  have k4:=(hb.cell (p:=a.add (j*5+4)) qE).trans (hcl 4 _ rfl)
  have i0:=(hb.cell (p:=b.add (p*3)) qm).trans (hil 0 _ rfl)
  have i1:=(hb.cell (p:=b.add (p*3+1)) qm).trans (hil 1 _ rfl)
  have i2:=(hb.cell (p:=b.add (p*3+2)) qm).trans (hil 2 _ rfl)
  rw[qAl a (j*5) 1 (by omega)] at k1
  rw[qAl a (j*5) 2 (by omega)] at k2
  rw[qAl a (j*5) 3 (by omega)] at k3
  rw[qAl a (j*5) 4 (by omega)] at k4
  rw[qAl b (p*3) 1 (by omega)] at i1
  rw[qAl b (p*3) 2 (by omega)] at i2
  exact⟨k0,k1,k2,k3,k4,i0,i1,i2⟩
 show Calls Tryz.prog 25 #[.agg #[.slice A0 n0 d0,.slice (some a) n1 d1,.slice A2 n2 d2,.slice A3 n3 d3,.slice A4 n4 d4],.int .i64 (j:Int),.int .i64 (p:Int),.slice (some aD) k g] w (RFlows (insB8 x fn (o,ia,ib) p ts) w)
 obtain⟨n,hn⟩:∃n,ins.length=n:=⟨_,rfl⟩
 obtain⟨m,hm⟩:∃m,outs.length=m:=⟨_,rfl⟩
 have hnm:=qDG hc hrb
 rw[hn,hm] at hnm
 obtain⟨hn8',hm8⟩:=hnm
 rw[hrb] at RUc
 have HN:=qAZ hn
 have HM:=qAZ hm
 have HNB:Hid (∀b,k-ins.length=b→belowT (ts.drop b) ins=false→insB8 x fn (o,ia,ib) p ts=(4,[],[])):=fun b hb h=>qDo hrb (qCm (by rw[HK.out];exact hb) h)
 have HMV:Hid (∀b,k-ins.length=b→belowT (ts.drop b) ins=true→movB ts ins outs=some (ts.take b++outs)):=fun b hb h=>qCl (by rw[HK.out];exact hb) (by rw[HK.out];exact hle) h (by omega)
 have HV1:Hid (∀t,movB ts ins outs=some t→nextB fn (o,ia,ib) p=none→insB8 x fn (o,ia,ib) p ts=(1,[],[])):=fun t h1 h2=>qFs hrb h1 h2
 have HV2:Hid (∀t l,movB ts ins outs=some t→nextB fn (o,ia,ib) p=some l→insB8 x fn (o,ia,ib) p ts=(0,t,l)):=fun t l h1 h2=>qFr hrb h1 h2
 have N26:Hid (o=26→nextB fn (o,ia,ib) p=some []):=fun h=>by simp[nextB,h]
 have N23:Hid (o=23→nextB fn (o,ia,ib) p=some [ia]):=fun h=>by simp[nextB,h]
 have NL:Hid (¬o=26→¬o=23→uc≤p+1→nextB fn (o,ia,ib) p=none):=fun h1 h2 h3=>by simp[nextB,h1,h2,HUC.out,h3]
 have N24:Hid (o=24→¬uc≤p+1→nextB fn (o,ia,ib) p=some [(p:Int)+1,ia]):=fun h1 h3=>by simp[nextB,h1,HUC.out,h3]
 have ND:Hid (¬o=26→¬o=23→¬o=24→¬uc≤p+1→nextB fn (o,ia,ib) p=some [(p:Int)+1]):=fun h1 h2 h4 h3=>by simp[nextB,h1,h2,h4,HUC.out,h3]
 rw[hn] at hle h8 HNB HMV
 rw[hm] at h8
 obtain⟨q,hq⟩:∃q:Nat,k-n=q:=⟨_,rfl⟩
 rw[hq] at h8
 have HQ:Hid (k-n=q):=hq
 have e1:(k:Int)-(n:Int)=(q:Int):=by omega
 have e2:decide ((q:Int)<0)=false:=by simp
 have e3:IntKind.i64.wrap ((q:Int)+(m:Int))=(q:Int)+(m:Int):=by rw[qAv];omega
 have e4:¬(8:Int)<(q:Int)+(m:Int):=by omega
 have e5:decide ((8:Int)<(q:Int)+(m:Int))=false:=by simp;omega
 have e6:(q:Int)≤(g:Int):=by omega
 have e7:q≤g:=by omega
 have hp64:p≤64:=by omega
 have hwp:IntKind.i64.wrap ((p:Int)+1)=(p:Int)+1:=by rw[qAv];omega
 clear hc hnam hgood hcl hil sk s0 s1 s2 h0 h1 h2 l0 l1 l2 m0 m1 m2 t0 t1 t2 f0 f1 f2 f3 f4 f5 g0 g1 g2 hfn hin hk q1 q2 q3 HFit hr1 hr2 hrb hn hm hle hq
 generalize hr8:insB8 x fn (o,ia,ib) p ts=r8 at*
 clear hr8
 go_enter Tryz.func25,Tryz.ntmps25
 go_upto_region 1 with(fail)
 refine qAp fun U hU=> ?_
 have HBU:Hid (Below w.heap.size w U):=by show Below _ _ _;rw[hU];exact qAj w _
 have HMU:Hid (C5 w.heap.size (.slice A0 n0 d0) (.slice (some a) n1 d1) (.slice A2 n2 d2) (.slice A3 n3 d3) (.slice A4 n4 d4) U):=by show C5 _ _ _ _ _ _ _;rw[hU];simp[C5,go_sem]
 have hsU:U.heap.size=w.heap.size+1:=by rw[hU];simp
 clear hU
 obtain⟨x0,x1,x2,x3,x4⟩:=HMU.out
 obtain⟨y0,y1,y2,y3,y4,y5,y6,y7⟩:=HCL.out U HBU.out
 go_upto_region 2 with(fail)
 refine qAp fun V hV=> ?_
 have HUV:Hid (Below U.heap.size U V):=by show Below _ _ _;rw[hV];exact qAj U _
 have HFV:Hid (Blk V (w.heap.size+1) 61 #[.slice P0 ua c0,.int .i64 fn.ret.1,.int .i64 fn.ret.2,.slice P1 ul c1,.slice (some b) uc c2]):=by show Blk _ _ _ _;rw[hV,←hsU];exact qAz U _ _
 have hsV:V.heap.size=w.heap.size+2:=by rw[hV];simp[hsU]
 have HBV:Hid (Below w.heap.size w V):=HBU.out.trans (HUV.out.mono (by omega))
 try rw[hsU]
 clear hV x0 x1 x2 x3 x4 y0 y1 y2 y3 y4 y5 y6 y7
 have v3:=HFV.out.cell 4
 obtain⟨-,-,-,-,-,y5,y6,y7⟩:=HCL.out V HBV.out
 go_upto_region 3 with(fail)
 refine qAp fun W hW=> ?_
 have HVW:Hid (Below V.heap.size V W):=by show Below _ _ _;rw[hW];exact qAj V _
 have HIW:Hid (Blk W (w.heap.size+2) 65 #[.int .i64 o,.int .i64 ia,.int .i64 ib]):=by show Blk _ _ _ _;rw[hW,←hsV];exact qAz V _ _
 have hsW:W.heap.size=w.heap.size+3:=by rw[hW];simp[hsV]
 have HBW:Hid (Below w.heap.size w W):=HBV.out.trans (HVW.out.mono (by omega))
 have HFW:Hid (Blk W (w.heap.size+1) 61 #[.slice P0 ua c0,.int .i64 fn.ret.1,.int .i64 fn.ret.2,.slice P1 ul c1,.slice (some b) uc c2]):=qAc HFV.out HVW.out (by omega)
 have HMW:Hid (C5 w.heap.size (.slice A0 n0 d0) (.slice (some a) n1 d1) (.slice A2 n2 d2) (.slice A3 n3 d3) (.slice A4 n4 d4) W):=(HMU.out.below HUV.out (by omega)).below HVW.out (by omega)
 try rw[hsV]
 clear hW v3 y5 y6 y7
 obtain⟨x0,x1,x2,x3,x4⟩:=HMW.out
 obtain⟨v0,v1,v2,v3,v4⟩:W.cell? ⟨w.heap.size+1,0,none⟩=some (.slice P0 ua c0)∧W.cell? ⟨w.heap.size+1,1,none⟩=some (.int .i64 fn.ret.1)∧W.cell? ⟨w.heap.size+1,2,none⟩=some (.int .i64 fn.ret.2)∧W.cell? ⟨w.heap.size+1,3,none⟩=some (.slice P1 ul c1)∧W.cell? ⟨w.heap.size+1,4,none⟩=some (.slice (some b) uc c2):=⟨HFW.out.cell 0,HFW.out.cell 1,HFW.out.cell 2,HFW.out.cell 3,HFW.out.cell 4⟩
 obtain⟨u0,u1,u2⟩:W.cell? ⟨w.heap.size+2,0,none⟩=some (.int .i64 o)∧W.cell? ⟨w.heap.size+2,1,none⟩=some (.int .i64 ia)∧W.cell? ⟨w.heap.size+2,2,none⟩=some (.int .i64 ib):=⟨HIW.out.cell 0,HIW.out.cell 1,HIW.out.cell 2⟩
 go_upto_region 8 with(first
  |(go_at_call 54
    refine(RUc.out _ HBW.out).mono ?_
    intro e w4 h4
    obtain⟨hb4,A9,c9,B9,d9,he4,s9,s8⟩:=qCW h4
    rw[HN.out,HM.out] at he4
    subst he4
    have HB4:=qAZ hb4
    have HW4:=qAZ (HBW.out.trans (hb4.mono HBW.out.size))
    have hs4:=hb4.size
    have S9:=qAZ s9
    have S8:=qAZ s8
    clear h4 hb4 s9 s8 x0 x1 x2 x3 x4 v0 v1 v2 v3 v4 u0 u1 u2))
 go_loopw [17] (fun i wr=>∃s:Nat,s≤n∧i= .int .i64 (s:Nat)∧belowT ((ts.drop q).take s) (ins.take s)=true∧Below w4.heap.size w4 wr) (fun i _=>n-(intOf i).toNat)
 case atStart=>exact⟨0,qAs _,rfl,by simp[belowT],qAe _ _⟩
 case round=>
  obtain⟨s,hs,rfl,heq,hbel⟩:=hrel
  have HE:=qAZ heq
  have HB:=qAZ hbel
  have HWr:=qAZ (HW4.out.trans (hbel.mono HW4.out.size))
  have hsr:=hbel.size
  clear heq hbel
  by_cases hlt:s<n
  · obtain⟨i,hi⟩:∃i,q+s=i:=⟨_,rfl⟩
    have hik:i<k:=by have:=HQ.out;omega
    obtain⟨t1,hx⟩:∃t1,ts[i]? =some t1:=⟨ts[i]'(by rw[HK.out];exact hik),qAa _⟩
    obtain⟨t2,hy⟩:∃t2,ins[s]? =some t2:=⟨ins[s]'(by rw[HN.out];exact hlt),qAa _⟩
    have HX:Hid ((ts.drop q)[s]? =some t1):=by show _=_;rw[List.getElem?_drop,hi,hx]
    have HY:=qAZ hy
    obtain⟨a1,cs1,ea1,hab1,hc1,hr1⟩:=(SKv.out wr HWr.out).at hx
    obtain rfl:aD=a1:=Option.some.inj ea1
    obtain⟨a2,cs2,rfl,hab2,hc2,hr2⟩:=S9.out.at hy
    obtain⟨rfl,-,-⟩:=hr1
    obtain⟨rfl,-,-⟩:=hr2
    have z0:=hc1 0 _ rfl
    rw[show i*typL.k+0=i*2 from rfl] at z0
    have z1:=hc1 1 _ rfl
    rw[show i*typL.k+1=i*2+1 from rfl,qAl aD (i*2) 1 (by omega)] at z1
    have y0:=(HB.out.cell (p:=a2.add (s*2)) (by rw[qA9];exact hab2)).trans (hc2 0 _ rfl)
    have y1:=(HB.out.cell (p:=a2.add (s*2+1)) (by rw[qA9];exact hab2)).trans (hc2 1 _ rfl)
    rw[qAl a2 (s*2) 1 (by omega)] at y1
    have z0r:=cell_regrown z0
    have z1r:=cell_regrown z1
    have y0r:=cell_regrown y0
    have y1r:=cell_regrown y1
    have HP:Hid (∀w1,Calls Tryz.prog 55 #[.agg #[.int .i64 t1.1,.int .i64 t1.2],.agg #[.int .i64 t2.1,.int .i64 t2.2]] w1 fun e w'=>e= .returned (.bool (subT t1 t2))∧Below w1.heap.size w1 w'):=fun w1=>rsub t1.1 t1.2 t2.1 t2.2 w1
    have HBR:Hid (∀dq osq,Below w4.heap.size w4 (Go.Sort.grow (redrawn wr dq) osq)):=fun dq osq=>HB.out.trans ((below_regrown wr dq osq).mono HB.out.size)
    have k0':0≤(s:Int):=by omega
    have k1':(s:Int)<(n:Int):=by omega
    have k2':(i:Int)<(k:Int):=by omega
    have k3':(q:Int)+(s:Int)=(i:Int):=by omega
    have k4':IntKind.i64.wrap ((q:Int)+(s:Int))=(i:Int):=by rw[qAv];omega
    have k5':IntKind.i64.wrap (i:Int)=(i:Int):=by rw[qAv];omega
    clear hc1 hc2 hx hy ea1 hi
    cases hg:subT t1 t2
    all_goals
     rw[hg] at HP
     have HG:=qAZ hg
     clear hg
     go_wp2_with fail
     refine wp_region_quiet_below qV qV ?_
     repeat(quiet_step (first|with_reducible exact Calls.regrown_of (HP.out _)))
     refine wpQuiet_nil ?_
     intro _ hw'
     obtain⟨⟨dq,osq⟩,hw''⟩:=hw'
     subst hw''
     have HX2:=qAZ (HBR.out dq osq)
     go_wp2_with fail
    · go_ret3
      exact qB5 (HNB.out q HQ.out (qDS HX.out HY.out HG.out)) (HW4.out.trans (HX2.out.mono HW4.out.size))
    · refine⟨⟨s+1,by omega,by simp,qDC HE.out HX.out HY.out HG.out,HX2.out⟩,by simp[intOf];omega⟩
  · obtain rfl:s=n:=by omega
    have HBT:Hid (belowT (ts.drop q) ins=true):=by
     have e:=HE.out
     rw[qAr (by rw[List.length_drop,HK.out];have:=HQ.out;omega),qAr (by rw[HN.out];exact qAf _)] at e
     exact e
    have HM1:Hid (movB ts ins outs=some ((ts.take q)++outs)):=HMV.out q HQ.out HBT.out
    have HA6:Hid (A64 ((ts.take q)++outs)):=(HAts.out.take q).app S8.out.a64
    have HOE:=qAZ (qB2 wr)
    have hsz:w.heap.size≤wr.heap.size:=HWr.out.size
    clear hlt HE
    go_upto_region 13 with(first
     |(at_builtin
       refine qBb _ rfl (.tmp 74) (.tmp 77) rfl wr.heap.size (.slice (some ⟨wr.heap.size,0,none⟩) 0 0) 0 [] rfl HOE.out (some aD) q g (ts.take q) rfl (by rw[List.length_take,HK.out];have:=HQ.out;omega) (·<w.heap.size) (((HSK.out.below HWr.out (qAf _)).below (qAj wr _) hsz).take q) (by omega) (by simp) ?_
       intro v5 w5 hown5 hg5 _
       have HB5:=qAZ ((qAj wr _).grown hg5 (by simp) (fun i hi=>(HOE.out.lt i hi).1))
       have HO5:=qAZ hown5
       have hs5:=HB5.out.size
       clear hown5 hg5)
     |(at_builtin
       refine qBb _ rfl (.tmp 78) (.tmp 79) rfl wr.heap.size v5 (0+q) ([]++(ts.take q)) rfl HO5.out B9 m d9 outs rfl HM.out (·<w4.heap.size) ((S8.out.below HB.out (qAf _)).below HB5.out hsr) (by omega) hs5 ?_
       intro v6 w6 hown6 hg6 _
       have HB6:=qAZ (HB5.out.grown hg6 hs5 (fun i hi=>(HO5.out.lt i hi).1))
       have HO6:=qAZ hown6
       have hs6:=HB6.out.size
       clear hown6 hg6))
    have HW6:=qAZ (HWr.out.trans (HB6.out.mono HWr.out.size))
    have hws:W.heap.size≤wr.heap.size:=qBA hs4 hsr
    have HF6:Hid (Blk w6 (w.heap.size+1) 61 #[.slice P0 ua c0,.int .i64 fn.ret.1,.int .i64 fn.ret.2,.slice P1 ul c1,.slice (some b) uc c2]):=qAc (qAc (qAc HFW.out HB4.out (by omega)) HB.out (by omega)) HB6.out (by omega)
    have HI6:Hid (Blk w6 (w.heap.size+2) 65 #[.int .i64 o,.int .i64 ia,.int .i64 ib]):=qAc (qAc (qAc HIW.out HB4.out (by omega)) HB.out (by omega)) HB6.out (by omega)
    obtain⟨u0,u1⟩:w6.cell? ⟨w.heap.size+2,0,none⟩=some (.int .i64 o)∧w6.cell? ⟨w.heap.size+2,1,none⟩=some (.int .i64 ia):=⟨HI6.out.cell 0,HI6.out.cell 1⟩
    have v4:w6.cell? ⟨w.heap.size+1,4,none⟩=some (.slice (some b) uc c2):=HF6.out.cell 4
    have HU1:=qAZ u1
    have h66:w.heap.size+2<w6.heap.size:=by omega
    have HCI:Hid (∀v,Below w6.heap.size w6 v→v.cell? ⟨w.heap.size+2,1,none⟩=some (.int .i64 ia)):=fun v hb=>(hb.cell (p:=⟨w.heap.size+2,1,none⟩) h66).trans HU1.out
    by_cases h26:o=26
    · exact jy
    have e26:(o==26)=false:=by simpa using h26
    by_cases h23:o=23
    · exact qu
    have e23:(o==23)=false:=by simpa using h23
    by_cases hlen:uc≤p+1
    · exact jq
    have el:¬(uc:Int)≤(p:Int)+1:=by omega
    by_cases h24:o=24
    · exact qr
    have e24:(o==24)=false:=by simpa using h24
    have HN2:=qAZ (ND.out h26 h23 h24 hlen)
    go_wp2_with fail
    go_ret3
    exact qCt (cs:= #[.int .i64 ((p:Int)+1)]) (HV2.out _ _ HM1.out HN2.out) HO6.out HA6.out HW6.out HWr.out.size (qAj w6 _) (by(repeat(first|((with_reducible refine qAm ?_);simp;done)|with_reducible refine qAd ?_|with_reducible refine qAy ?_))) zu rfl rfl
end Go.Proofs.YtconajaecpgjgaaGreat
