/-
Ffl Vnx Jw Sc5 Jr
-/
import Derived.Test.YtgdbhanhmenmfaaGreatQ10
import Derived.Test.YtgdbhanhmenmfaaGreatQ26
import Derived.Test.YtgdbhanhmenmfaaGreatQ27
import Derived.Test.YtgdbhanhmenmfaaGreatQ30
import Derived.OwnWalk
import Derived.Lib.QuietBelow
import Derived.BigQuiet
import Derived.Deep.RegionHeld3
set_option linter.unusedSimpArgs false
set_option linter.unusedVariables false
set_option maxRecDepth 100000
set_option maxHeartbeats 8000000
namespace Go.Proofs.YtgdbhanhmenmfaaGreat
open Go.RowKit
variable {e:Ending}{t:List Typ}{w w':World}
theorem qH {P:Prop} (h:P:=by
 by_cases he:er=0
 rotate_left
 · have hne:(er != 0)=true:=by simpa using he
   have heq:(er==0)=false:=by simpa using he
   clear he
   go_wp2_with fail
   go_ret;exact⟨by simp[heq],HB6.out⟩
 subst he;obtain⟨hk2,hkt⟩:=HTh.out rfl;have CT:Hid (Calls Tryz.prog 154 #[.slice B5 ks.length d5,.func (.func 152) #[] #[.pointer (some ⟨PS,0,none⟩),.pointer (some ⟨G6,0,none⟩)]] W6 (Tells (ks.any fun k=> !goesB t l k) W6)):=
  qHi B5 ks.length d5 ks (fun k=> !goesB t l k) ⟨PS,0,none⟩ ⟨G6,0,none⟩ W6 rfl HNU6.out (by omega) fun w1 z hb hz=>by
   obtain⟨hz0,hzl⟩:=hkt z hz;obtain⟨kn,rfl⟩:∃kn:Nat,z=(kn:Int):=⟨z.toNat,by omega⟩;rw[Int.toNat_natCast] at hzl;have hb2:=HB6.out.trans (hb.mono HB6.out.size);exact qIG PS G6 (some aD) A5 ul dl t.length c5 l t kn w1 (HS.out w1 hb2).2.2.2.2.2.2.1 ((hb.cell (p:=⟨G6,0,none⟩) (qBR W6 _ HBox.out)).trans HBox.out) HLl.out (HSq.out w1 hb2) rfl (qCE HSQ6.out hb) hzl (by omega) (by have:=HC5.out;omega)
 rw[not_all] at CT;generalize ks.all (goesB t l)=ab at*
 go_wp2_with (first
  |(go_at_call 154
    refine CT.out.mono ?_;rintro e w7 ⟨rfl,hb7⟩;have HB7:=qBK (HB6.out.trans (hb7.mono HB6.out.size));clear hb7))
 go_ret;exact⟨by simp,HB7.out⟩):P:=h
theorem qG4 {K:Nat} {ins outs:List Typ} (h:Chgs K ins outs w e w') (hK:K≤w.heap.size):Below w.heap.size w w'∧∃A c B d,e= .returned (.agg #[.slice A ins.length c,.slice B outs.length d])∧Sq typL (·<w'.heap.size) w' A ins∧Sq typL (·<w'.heap.size) w' B outs∧outs.length≤d∧d≤maxLen:=by
 obtain⟨hb,A,n,c,B,m,d,rfl,⟨A2,c2,e2,-,-,s2⟩,⟨B2,d2,e3,h3,h4,s3⟩⟩:=h;simp only[List.cons.injEq,Value.slice.injEq,and_true] at e2 e3;obtain⟨rfl,rfl,rfl⟩:=e2;obtain⟨rfl,rfl,rfl⟩:=e3;have hz:=hb.size;exact⟨hb,_,_,_,_,rfl,s2.wide fun b hb=>by rcases hb with hb|hb<;>omega,s3.wide fun b hb=>by rcases hb with hb|hb<;>omega,h3,h4⟩
theorem qJu {r:Option (List Typ)} (hr:r=none) (h:Moved r w e w'):e= .returned (.tuple #[.slice none 0 0,.bool false])∧Below w.heap.size w w':=by
 obtain⟨hb,⟨-,he⟩|⟨t,v,ht,-⟩⟩:=h
 · exact⟨he,hb⟩
 · rw[hr] at ht;cases ht
theorem qJt {r:Option (List Typ)} (hr:r=some t) (h:Moved r w e w'):∃v,e= .returned (.tuple #[v,.bool true])∧w'.ownsRow w.heap.size 61 2 v t.length (T2 t)∧Below w.heap.size w w':=by
 obtain⟨hb,⟨hn,-⟩|⟨t',v,ht,he,ho⟩⟩:=h
 · rw[hr] at hn;cases hn
 · rw[hr] at ht
   injection ht with ht;subst ht;exact⟨v,he,ho,hb⟩
theorem movB_64 {s i o:List Typ} (h:movB s i o=some t) (hs:A64 s) (ho:A64 o):A64 t:=by
 unfold movB at h;split at h
 · injection h with h
   subst h;exact(hs.take _).app ho
 · cases h
theorem flow_at (cs:List Value) (x:Mod) (j p:Nat) (D:Option Addr) (k g:Nat) (ts:List Typ) (w:World) (h:modL.R (·<w.heap.size) w cs x) (fn:Fn) (o ia ib:Int) (hc:checkN x=0) (hfn:x.funcs[j]? =some fn) (hin:fn.code[p]? =some (o,ia,ib)) (hk:ts.length=k) (sk:Sq typL (·<w.heap.size) w D ts) (bk:k≤1000) (bg:k≤g) (bg2:g≤9223372036854775807) (hnil:D=none→g=0):
 Calls Tryz.prog 151 #[vAgg cs,.int .i64 (j:Int),.int .i64 (p:Int),.slice D k g] w (Flows (flowB x (j:Int) (p:Int) ts) w):=by
 obtain⟨q1,q2,q3,q4⟩:=qCl hc (qBQ hfn);obtain⟨hgood,hnam⟩:=q4 _ (qBQ hin);have hpl:=(qBM.1 hin).1;obtain⟨o1,x1,y1,eo,ex,ey,-,hx1,hy1,-,-,-⟩:=qBm (op:=o) (a:=ia) (b:=ib) hgood;have h0a:0≤ia:=by omega
 have HV:Hid (flowB x (j:Int) (p:Int) ts=(match movB ts (chgB x fn (o,ia,ib) ts).1 (chgB x fn (o,ia,ib) ts).2 with|none=>(4,[],[])|some t=>if ((fn.code.length:Nat):Int)∈follB (o,ia,ib) (p:Int) then (1,[],[]) else (0,t,follB (o,ia,ib) (p:Int)))):=by
  show flowB _ _ _ _=_
  rw[qF3 hc hfn hin,ins_chg h0a hnam,qLl hnam hpl]
  cases movB ts (chgB x fn (o,ia,ib) ts).1 (chgB x fn (o,ia,ib) ts).2 with
  |none=>rfl
  |some t=>by_cases hm:((fn.code.length:Nat):Int)∈follB (o,ia,ib) (p:Int)<;>simp[hm]
 obtain⟨hsh1,hsh2⟩:=chg_len (f:=fn) (i:=(o,ia,ib)) (s:=ts) hc;have HFit:=qBK (qBw.1 (qBo hc));refine jb ?_;intro TE;obtain⟨_,_,_,_,_,rfl,⟨A0,d0,e0,l0,m0,s0⟩,⟨A1,d1,e1,l1,m1,s1⟩,⟨A2,d2,e2,l2,m2,s2⟩,⟨A3,d3,e3,-⟩,⟨A4,d4,e4,-⟩⟩:=h;simp only[List.cons.injEq,and_true] at e0 e1 e2 e3 e4;subst e0 e1 e2 e3 e4;refine jR ?_;intro n0 h0 n1 h1 n2 h2;rw[h0,h1,h2] at TE⊢;generalize x.ints.length=n3 at*;generalize x.texts.length=n4 at*;refine jW ?_;intro TE2;clear TE
 show Calls Tryz.prog 151 #[.agg #[.slice A0 n0 d0,.slice A1 n1 d1,.slice A2 n2 d2,.slice A3 n3 d3,.slice A4 n4 d4],.int .i64 (j:Int),.int .i64 (p:Int),.slice D k g] w (Flows (flowB x (j:Int) (p:Int) ts) w)
 refine jx ?_;intro HB0;refine jI ?_;intro HC0;obtain⟨a,ccs,ea,hab,hcl,hR⟩:=s1.at hfn;subst ea;obtain⟨p0,p1,p2,rfl,hr1,hr2,⟨P0,c0,e4,f0,f1,t0⟩,⟨P1,c1,e5,f2,f3,t1⟩,⟨P2,c2,e6,f4,f5,t2⟩⟩:=hR;simp only[List.cons.injEq,and_true] at e4 e5 e6;subst e4 e5 e6;have HCL:Hid (∀v,Below w.heap.size w v→v.cell? (a.add (j*5))=some (.slice P0 fn.args.length c0)∧v.cell? ⟨(a.add (j*5)).block,(a.add (j*5)).off+1,none⟩=some (.int .i64 fn.ret.1)∧v.cell? ⟨(a.add (j*5)).block,(a.add (j*5)).off+2,none⟩=some (.int .i64 fn.ret.2)∧v.cell? ⟨(a.add (j*5)).block,(a.add (j*5)).off+3,none⟩=some (.slice P1 fn.locs.length c1)∧v.cell? ⟨(a.add (j*5)).block,(a.add (j*5)).off+4,none⟩=some (.slice P2 fn.code.length c2)):=fun v hb=>by
  refine qAN ?_;intro k0 k1 k2 k3 k4;rw[qBT a (j*5) 1 (by omega)] at k1;rw[qBT a (j*5) 2 (by omega)] at k2;rw[qBT a (j*5) 3 (by omega)] at k3;rw[qBT a (j*5) 4 (by omega)] at k4;exact⟨k0,k1,k2,k3,k4⟩
 have hjn:(j:Int)<(n1:Int):=by have:=(qBM.1 hfn).1;omega
 have hn8:n1≤8:=by have:=(qBw.1 (qBo hc)).f8;omega
 obtain⟨b,ics,eb,hbb,hil,hiR⟩:=t2.at hin;subst eb;obtain⟨rfl,-,-,-⟩:=hiR;have HCI:Hid (∀v,Below w.heap.size w v→v.cell? (b.add (p*3))=some (.int .i64 o)∧v.cell? ⟨(b.add (p*3)).block,(b.add (p*3)).off+1,none⟩=some (.int .i64 ia)∧v.cell? ⟨(b.add (p*3)).block,(b.add (p*3)).off+2,none⟩=some (.int .i64 ib)):=fun v hb=>by
  have k0:=(hb.cell (p:=b.add (p*3)) zS).trans (hil 0 _ rfl);have k1:=(hb.cell (p:=b.add (p*3+1)) zS).trans (hil 1 _ rfl);have k2:=(hb.cell (p:=b.add (p*3+2)) zS).trans (hil 2 _ rfl);rw[qBT b (p*3) 1 (by omega)] at k1;rw[qBT b (p*3) 2 (by omega)] at k2;exact⟨k0,k1,k2⟩
 obtain⟨ua,g0⟩:∃n,fn.args.length=n:=⟨_,rfl⟩;obtain⟨ul,g1⟩:∃n,fn.locs.length=n:=⟨_,rfl⟩;obtain⟨uc,g2⟩:∃n,fn.code.length=n:=⟨_,rfl⟩;rw[g0,g1,g2] at HCL;rw[g0] at q1;rw[g1] at q2;rw[g2] at q3 hpl HV;have hpn:(p:Int)<(uc:Int):=by omega
 rw[hc] at TE2;have HF:=qBK (fun v=>qFz (some a) n1 d1 (j:Int) v);rw[show hasB n1 (j:Int)=true by simp[hasB];omega] at HF;have HI:=qBK (fun v=>qIz (some b) uc c2 (p:Int) v);rw[show hasB uc (p:Int)=true by simp[hasB];omega] at HI;have SKv:Hid (∀v,Below w.heap.size w v→Sq typL (·<v.heap.size) v D ts):=fun v hb=>(sk.below hb (qBL _)).wide fun i hi=>qBN hi hb.size;have HAts:=qBK sk.a64;have CHc:Hid (∀v,Below w.heap.size w v→Calls Tryz.prog 222 #[.agg #[.slice A0 n0 d0,.slice (some a) n1 d1,.slice A2 n2 d2,.slice A3 n3 d3,.slice A4 n4 d4],.agg #[.slice P0 ua c0,.int .i64 fn.ret.1,.int .i64 fn.ret.2,.slice P1 ul c1,.slice (some b) uc c2],.agg #[.int .i64 o,.int .i64 ia,.int .i64 ib],.slice D k g] v (Chgs v.heap.size (chgB x fn (o,ia,ib) ts).1 (chgB x fn (o,ia,ib) ts).2 v)):=fun v hb=>
  qKU A0 (some a) A2 A3 A4 P0 P1 (some b) D n0 n1 n2 n3 n4 d0 d1 d2 d3 d4 ua ul uc c0 c1 c2 k g x fn ts o ia ib v
   ⟨h0,h1,h2,(s0.below hb (qBL _)).wide fun i hi=>qBN hi hb.size,(s1.below hb (qBL _)).wide fun i hi=>qBN hi hb.size,(s2.below hb (qBL _)).wide fun i hi=>qBN hi hb.size,g0,g1,(t0.below hb (qBL _)).wide fun i hi=>qBN hi hb.size,(t1.below hb (qBL _)).wide fun i hi=>qBN hi hb.size,⟨hr1,hr2⟩,hk,SKv.out v hb,by have:=HFit.out.r8;omega,by omega,by have:=HFit.out.i8;omega,by omega,by omega,bk⟩ hgood hnam
 have FOc:=qBK (fun v=>qKE o ia ib (p:Int) v (by omega) (by omega));have HK:=qBK hk;have HFL:Hid ((follB (o,ia,ib) (p:Int)).length≤2):=by show _≤_;unfold follB;repeat(first|(split;· simp)|simp)
 clear hc hnam hgood hcl hil sk s0 s1 s2 h0 h1 h2 l0 l1 l2 m0 m1 m2 t0 t1 t2 f0 f1 f2 f3 f4 f5 g0 g1 g2 hfn hin hk q1 q2 q3 q4 eo ex ey hx1 hy1 h0a;generalize chgB x fn (o,ia,ib) ts=ch at*;generalize follB (o,ia,ib) (p:Int)=fo at*;generalize flowB x (j:Int) (p:Int) ts=fb at*
 go_enter Tryz.func151,Tryz.ntmps151
 go_upto_region 4 with(first
  |(go_at_call 57
    refine(TE2.out _ (HB0.out _)).mono ?_;rintro e w1 ⟨rfl,hb1⟩;refine j5 ?_;intro HB1 x0 x1 x2 x3 x4;have hs1:w.heap.size<w1.heap.size:=zI;obtain⟨y0,y1,y2,y3,y4⟩:=HCL.out _ HB1.out;clear hb1)
  |(go_at_call 220
    refine(HF.out _).mono ?_;rintro e w2 ⟨rfl,hw2⟩;have hw3:=hw2.symm;clear hw2;subst hw3)
  |(go_at_call 221
    refine(HI.out _).mono ?_;rintro e w2 ⟨rfl,hw2⟩;have hw3:=hw2.symm;clear hw2;subst hw3))
 refine qBV fun W hW=> ?_;have HBW:Hid (Below w.heap.size w W):=by show Below _ _ _;rw[hW];exact HB1.out.alloc HB1.out.size _
 have HFf:Hid (Blk W w1.heap.size 70 #[.slice P0 ua c0,.int .i64 fn.ret.1,.int .i64 fn.ret.2,.slice P1 ul c1,.slice (some b) uc c2]):=by show Blk _ _ _ _;rw[hW];exact qBl rfl
 have HMm:Hid (C5 w.heap.size (.slice A0 n0 d0) (.slice (some a) n1 d1) (.slice A2 n2 d2) (.slice A3 n3 d3) (.slice A4 n4 d4) W):=by show C5 _ _ _ _ _ _ _;rw[hW];exact C5.below ⟨x0,x1,x2,x3,x4⟩ (qBe w1 _) hs1
 have hsW:w1.heap.size+1≤W.heap.size:=by rw[hW];simp
 clear hW x0 x1 x2 x3 x4 y0 y1 y2 y3 y4;have HC:Hid (∀v,Below W.heap.size W v→v.cell? ⟨w.heap.size,0,none⟩=some (.slice A0 n0 d0)∧v.cell? ⟨w.heap.size,1,none⟩=some (.slice (some a) n1 d1)∧v.cell? ⟨w.heap.size,2,none⟩=some (.slice A2 n2 d2)∧v.cell? ⟨w.heap.size,3,none⟩=some (.slice A3 n3 d3)∧v.cell? ⟨w.heap.size,4,none⟩=some (.slice A4 n4 d4)∧v.cell? ⟨w1.heap.size,0,none⟩=some (.slice P0 ua c0)∧v.cell? ⟨w1.heap.size,1,none⟩=some (.int .i64 fn.ret.1)∧v.cell? ⟨w1.heap.size,2,none⟩=some (.int .i64 fn.ret.2)∧v.cell? ⟨w1.heap.size,3,none⟩=some (.slice P1 ul c1)∧v.cell? ⟨w1.heap.size,4,none⟩=some (.slice (some b) uc c2)∧v.cell? (b.add (p*3))=some (.int .i64 o)∧v.cell? ⟨(b.add (p*3)).block,(b.add (p*3)).off+1,none⟩=some (.int .i64 ia)∧v.cell? ⟨(b.add (p*3)).block,(b.add (p*3)).off+2,none⟩=some (.int .i64 ib)):=fun v hb=>by
  have hm:=HMm.out.below hb (by omega);have hf:=qBf HFf.out hb (by omega);have hi:=HCI.out v (HBW.out.trans (hb.mono HBW.out.size));exact⟨hm.1,hm.2.1,hm.2.2.1,hm.2.2.2.1,hm.2.2.2.2,hf.cell 0,hf.cell 1,hf.cell 2,hf.cell 3,hf.cell 4,hi.1,hi.2.1,hi.2.2⟩
 have SW:=qBK (HC.out W (qBO _ _));have HSW:=qBK HBW.out.size;have ONc:Hid (∀v A9 B9 c9 d9,Below w.heap.size w v→Sq typL (·<v.heap.size) v A9 ch.1→Sq typL (·<v.heap.size) v B9 ch.2→ch.2.length≤d9→d9≤maxLen→Calls Tryz.prog 223 #[.agg #[.slice A9 ch.1.length c9,.slice B9 ch.2.length d9],.slice D k g] v (Moved (movB ts ch.1 ch.2) v)):=fun v A9 B9 c9 d9 hb s9 s8 hd hm=>
  on_any A9 B9 D ch.1.length ch.2.length k c9 d9 g ch.1 ch.2 ts v rfl rfl HK.out s9 s8 (SKv.out _ hb) (by omega) (by omega) bk bg bg2 hd (by unfold maxLen at hm;omega) hnil
 cases hmv:movB ts ch.1 ch.2
 case none=>
  have HMV:=qBK hmv;rw[hmv] at HV;clear hmv
  go_region_held3 (fun v=>v.cell? ⟨w.heap.size,0,none⟩=some (.slice A0 n0 d0)∧v.cell? ⟨w.heap.size,1,none⟩=some (.slice (some a) n1 d1)∧v.cell? ⟨w.heap.size,2,none⟩=some (.slice A2 n2 d2)∧v.cell? ⟨w.heap.size,3,none⟩=some (.slice A3 n3 d3)∧v.cell? ⟨w.heap.size,4,none⟩=some (.slice A4 n4 d4)∧v.cell? ⟨w1.heap.size,0,none⟩=some (.slice P0 ua c0)∧v.cell? ⟨w1.heap.size,1,none⟩=some (.int .i64 fn.ret.1)∧v.cell? ⟨w1.heap.size,2,none⟩=some (.int .i64 fn.ret.2)∧v.cell? ⟨w1.heap.size,3,none⟩=some (.slice P1 ul c1)∧v.cell? ⟨w1.heap.size,4,none⟩=some (.slice (some b) uc c2)∧v.cell? (b.add (p*3))=some (.int .i64 o)∧v.cell? ⟨(b.add (p*3)).block,(b.add (p*3)).off+1,none⟩=some (.int .i64 ia)∧v.cell? ⟨(b.add (p*3)).block,(b.add (p*3)).off+2,none⟩=some (.int .i64 ib))
   (first|exact SS5.out|exact SS4.out|exact SW.out|exact HC.out _ (qBO _ W).drew)
   (first
   |(go_at_call 222
     refine(CHc.out _ HBW.out.drew).mono ?_;intro e w4 h4;obtain⟨hb4,A9,c9,B9,d9,rfl,s9,s8,hd9,hm9⟩:=qG4 h4 (qBL _);refine qAq ?_;intro HB4 S9 S8 HD9 SS4;clear h4 hb4 s9 s8 hd9 hm9)
   |(go_at_call 223
     refine(ONc.out _ A9 B9 c9 d9 (HBW.out.trans (HB4.out.mono HBW.out.size)) S9.out S8.out HD9.out.1 HD9.out.2).mono ?_;intro e w5 h5;obtain⟨rfl,hb5⟩:=qJu HMV.out h5;have HB5:=qBK (HB4.out.trans (hb5.mono HB4.out.size));have SS5:=qBK (HC.out _ HB5.out);clear h5 hb5))
  go_wp2_with fail
  go_ret3
  rw[HV.out];exact qC8 (HBW.out.trans (HB5.out.mono HBW.out.size))
 case some t9=>
  have HMV:=qBK hmv;rw[hmv] at HV;clear hmv
  go_region_held3 (fun v=>v.cell? ⟨w.heap.size,0,none⟩=some (.slice A0 n0 d0)∧v.cell? ⟨w.heap.size,1,none⟩=some (.slice (some a) n1 d1)∧v.cell? ⟨w.heap.size,2,none⟩=some (.slice A2 n2 d2)∧v.cell? ⟨w.heap.size,3,none⟩=some (.slice A3 n3 d3)∧v.cell? ⟨w.heap.size,4,none⟩=some (.slice A4 n4 d4)∧v.cell? ⟨w1.heap.size,0,none⟩=some (.slice P0 ua c0)∧v.cell? ⟨w1.heap.size,1,none⟩=some (.int .i64 fn.ret.1)∧v.cell? ⟨w1.heap.size,2,none⟩=some (.int .i64 fn.ret.2)∧v.cell? ⟨w1.heap.size,3,none⟩=some (.slice P1 ul c1)∧v.cell? ⟨w1.heap.size,4,none⟩=some (.slice (some b) uc c2)∧v.cell? (b.add (p*3))=some (.int .i64 o)∧v.cell? ⟨(b.add (p*3)).block,(b.add (p*3)).off+1,none⟩=some (.int .i64 ia)∧v.cell? ⟨(b.add (p*3)).block,(b.add (p*3)).off+2,none⟩=some (.int .i64 ib))
   (first|exact SS5.out|exact SS4.out|exact SW.out|exact HC.out _ (qBO _ W).drew)
   (first
   |(go_at_call 222
     refine(CHc.out _ HBW.out.drew).mono ?_;intro e w4 h4;obtain⟨hb4,A9,c9,B9,d9,rfl,s9,s8,hd9,hm9⟩:=qG4 h4 (qBL _);refine qAq ?_;intro HB4 S9 S8 HD9 SS4;clear h4 hb4 s9 s8 hd9 hm9)
   |(go_at_call 223
     refine(ONc.out _ A9 B9 c9 d9 (HBW.out.trans (HB4.out.mono HBW.out.size)) S9.out S8.out HD9.out.1 HD9.out.2).mono ?_;intro e w5 h5;obtain⟨v5,rfl,hown5,hb5⟩:=qJt HMV.out h5;have HB5:=qBK (HB4.out.trans (hb5.mono HB4.out.size));have HA5:=qBK (movB_64 HMV.out HAts.out S8.out.a64);have HO5:=qBK (qIC hown5 (qBZ HBW.out.size HB4.out.size));have SS5:=qBK (HC.out _ HB5.out);clear h5 hown5 hb5))
  obtain⟨-,-,-,-,-,-,-,-,-,z4,y0,y1,y2⟩:=SS5.out;have HW5:=qBK (HBW.out.trans (HB5.out.mono HBW.out.size));have hs5:=HB5.out.size
  by_cases hmem:(uc:Int)∈fo
  case' pos=>rw[if_pos hmem] at HV
  case' neg=>rw[if_neg hmem] at HV
  all_goals
   have HME:=qBK hmem;clear hmem
   go_wp2_with (first
    |(go_at_call 224
      refine(FOc.out _).mono ?_;rintro e w6 ⟨hb6,v6,rfl,hown6⟩;have HB6:=qBK hb6;have HO6:=qBK hown6;obtain⟨A6,c6,rfl,hl6,hlc6,hcl6⟩:=qEW hown6;have HN6:=qBK (qGQ A6 fo.length c6 fo (uc:Int) w6 rfl (by have:=HFL.out;omega) fun jj xx hx=>by obtain⟨aa,ea,-,-,hcc⟩:=hcl6 jj xx hx;exact⟨aa,ea,hcc⟩);have z6:=(HB6.out.cell (p:=⟨w1.heap.size,4,none⟩) (by show w1.heap.size<_;omega)).trans z4;clear hb6 hown6 hl6 hlc6 hcl6)
    |(go_at_call 225
      refine(HN6.out).mono ?_;rintro e w7 ⟨he7,rfl⟩
      first|(rw[decide_eq_true HME.out] at he7)|(rw[decide_eq_false HME.out] at he7)
      subst he7))
   go_ret3
   rw[HV.out]
   first
   |exact qC8 (HW5.out.trans (HB6.out.mono HW5.out.size))
   |(refine⟨HW5.out.trans (HB6.out.mono HW5.out.size),_,_,rfl,qGe HO5.out HB6.out (qBL _),qIC HO6.out HW5.out.size,fun bb h1 h2=> ?_,HA5.out⟩
     have k1:=(HO5.out.lt bb h1).2;have k2:=(HO6.out.lt bb h2).1
     omega)
theorem qI4 (cs:List Value) (x:Mod) (fi pc:Int) (D:Option Addr) (k g:Nat) (ts:List Typ) (w:World) (h:modL.R (·<w.heap.size) w cs x) (hfi:I64 fi) (hpc:I64 pc) (hk:ts.length=k) (sk:Sq typL (·<w.heap.size) w D ts) (bk:k≤1000) (bg:k≤g) (bg2:g≤9223372036854775807) (hnil:D=none→g=0):
 Calls Tryz.prog 151 #[vAgg cs,.int .i64 fi,.int .i64 pc,.slice D k g] w (Flows (flowB x fi pc ts) w):=by
 by_cases hc:checkN x=0
 rotate_left
 · exact qOP cs x fi pc D k g ts w h hc
 cases hf:hasB x.funcs.length fi
 · exact qMA cs x fi pc D k g ts w h hc hf
 simp[hasB] at hf;obtain⟨j,rfl⟩:∃j:Nat,fi=(j:Int):=⟨fi.toNat,by omega⟩;obtain⟨fn,hfn⟩:∃fn,x.funcs[j]? =some fn:=⟨x.funcs[j]'(by omega),List.getElem?_eq_getElem _⟩
 cases hp:hasB fn.code.length pc
 · exact qL9 cs x j pc D k g ts w h fn hc hfn hp
 simp[hasB] at hp;obtain⟨p,rfl⟩:∃p:Nat,pc=(p:Int):=⟨pc.toNat,by omega⟩;obtain⟨⟨o,ia,ib⟩,hi⟩:∃i,fn.code[p]? =some i:=⟨fn.code[p]'(by omega),List.getElem?_eq_getElem _⟩;exact flow_at cs x j p D k g ts w h fn o ia ib hc hfn hi hk sk bk bg bg2 hnil
theorem qIY {m:Mod} {f:Fn} {i:Ins} {p:Nat} {s:List Typ} {ks:List Int} (h:insB8 m f i p s=(0,t,ks)):ks.length≤2:=by
 unfold insB8 at h;split at h
 · simp at h
 · split at h
   · simp at h
   · split at h
     · simp at h
     · rename_i l hl
       simp only[Prod.mk.injEq,true_and] at h;obtain⟨-,rfl⟩:=h;unfold nextB at hl
       repeat(split at hl
              · first
                |(injection hl with hl;subst hl;simp)
                |cases hl)
       injection hl with hl;subst hl;simp
theorem qIG (Q G:Nat) (D A5:Option Addr) (ul dl nt c5:Nat) (l:List Shape) (t:List Typ) (kn:Nat) (w:World) (hq:w.cell? ⟨Q,0,none⟩=some (.slice D ul dl)) (hg:w.cell? ⟨G,0,none⟩=some (.slice A5 nt c5)) (hl:l.length=ul) (hS:Sq shpL (·<w.heap.size) w D l) (ht:t.length=nt) (hT:Sq typL (·<w.heap.size) w A5 t) (hk:kn<ul) (hul:ul≤9223372036854775807) (hnt:nt≤9223372036854775807):
 Calls Tryz.prog 152 #[.int .i64 (kn:Int),.pointer (some ⟨Q,0,none⟩),.pointer (some ⟨G,0,none⟩)] w (Tells (!goesB t l (kn:Int)) w):=by
 obtain⟨⟨sb,u⟩,hx⟩:∃y,l[kn]? =some y:=⟨l[kn]'(by rw[hl];exact hk),List.getElem?_eq_getElem _⟩;obtain⟨aD,Gu,gu,rfl,-,q0,q1,hle,hcm,-,hsq⟩:=qHK hS hx;simp only at q0 q1 hle hsq;have p0:(0:Int)≤(kn:Int):=by omega
 have p1:(kn:Int)<(ul:Int):=by omega
 cases sb
 · rw[qOJ hx]
   clear hx hS hT hsq hle hcm hl ht
   go_enter Tryz.func152,Tryz.ntmps152
   go_wp2_with fail
   go_region
   go_wp2_with fail
   go_ret;exact⟨rfl,qBj _ _⟩
 · rw[qL4 hx]
   obtain⟨nu,hnu⟩:∃nu,u.length=nu:=⟨_,rfl⟩;rw[hnu] at q1 hle;have BL:Hid (∀w1,Below w.heap.size w w1→Calls Tryz.prog 153 #[.slice A5 nt c5,.slice Gu nu gu] w1 fun e w'=>e= .returned (.bool (belowT t u))∧Below w1.heap.size w1 w'):=fun w1 hb=>qJ4 A5 Gu nt nu c5 gu t u w1 ht hnu (qCE hT hb) (qCE hsq hb) hnt (by unfold maxLen at hcm;omega);have HBR:Hid (∀dq osq,Below w.heap.size w (Go.Sort.grow (redrawn w dq) osq)):=fun dq osq=>below_regrown w dq osq;have r0:=cell_regrown hq;have r1:=cell_regrown hg;have r2:=cell_regrown q0;have r3:=cell_regrown q1;clear hx hS hT hsq hle hcm hl ht hnu;generalize belowT t u=bb at*
   cases bb
   all_goals
    go_enter Tryz.func152,Tryz.ntmps152
    go_wp2_with fail
    refine wp_region_quiet_below qR qR ?_
    repeat(quiet_step (first|with_reducible exact Calls.regrown_of (BL.out _ (HBR.out _ _))))
    refine wpQuiet_nil ?_;intro _ hw';obtain⟨⟨dq,osq⟩,hw''⟩:=hw';subst hw'';have HX2:=qBK (HBR.out dq osq)
    go_wp2_with fail
    go_ret;exact⟨rfl,HX2.out⟩
theorem qHt (v0 v1 v2 v3 v4:Value) (k:Int) (D:Option Addr) (n c:Nat) (w:World):
 Calls Tryz.prog 89 #[.agg #[v0,v1,v2,v3,v4],.int .i64 k,.slice D n c] w fun e w'=>
  e= .returned (.func (.func 150) #[] #[.pointer (some ⟨w.heap.size+2,0,none⟩),.pointer (some ⟨w.heap.size,0,none⟩),.pointer (some ⟨w.heap.size+1,0,none⟩)])∧Below w.heap.size w w'∧w.heap.size+2<w'.heap.size∧C5 w.heap.size v0 v1 v2 v3 v4 w'∧w'.cell? ⟨w.heap.size+1,0,none⟩=some (.int .i64 k)∧w'.cell? ⟨w.heap.size+2,0,none⟩=some (.slice D n c):=by
 go_enter Tryz.func89,Tryz.ntmps89
 go_wp2_with fail
 go_ret;exact⟨rfl,((qBe w _).alloc (by simp) _).alloc zA _,by simp,by simp[C5,go_sem],by simp[go_sem],by simp[go_sem]⟩
theorem qJK (PM PF PS:Nat) (A0 A1 A2 A3 A4 D:Option Addr) (n0 n1 n2 n3 n4 d0 d1 d2 d3 d4 ul dl:Nat) (x:Mod) (j p:Nat) (fn:Fn) (l:List Shape) (w:World) (h:modL.R (·<w.heap.size) w [.slice A0 n0 d0,.slice A1 n1 d1,.slice A2 n2 d2,.slice A3 n3 d3,.slice A4 n4 d4] x) (hc:checkN x=0) (hfn:x.funcs[j]? =some fn)
 (hM:C5 PM (.slice A0 n0 d0) (.slice A1 n1 d1) (.slice A2 n2 d2) (.slice A3 n3 d3) (.slice A4 n4 d4) w) (hF:w.cell? ⟨PF,0,none⟩=some (.int .i64 (j:Int))) (hS:w.cell? ⟨PS,0,none⟩=some (.slice D ul dl)) (hl:l.length=ul) (hlf:l.length=fn.code.length) (h8:∀y∈l,y.2.length≤8) (hsq:Sq shpL (·<w.heap.size) w D l) (hp:p<ul):
 Calls Tryz.prog 150 #[.int .i64 (p:Int),.pointer (some ⟨PS,0,none⟩),.pointer (some ⟨PM,0,none⟩),.pointer (some ⟨PF,0,none⟩)] w (Tells (!okF x fn l p) w):=by
 have hmem:=qBQ hfn;obtain⟨-,-,hcode,-⟩:=qCl hc hmem;have hj8:j<9:=by have:=(qBw.1 (qBo hc)).f8;have:=(qBM.1 hfn).1;omega
 obtain⟨i,hi⟩:∃i,fn.code[p]? =some i:=⟨fn.code[p]'(by omega),List.getElem?_eq_getElem _⟩;obtain⟨⟨sb,s⟩,hx⟩:∃y,l[p]? =some y:=⟨l[p]'(by omega),List.getElem?_eq_getElem _⟩;obtain⟨aD,G,g,rfl,hab,q0,q1,hle,hcm,hnil,hsq1⟩:=qHK hsq hx;simp only at q0 q1 hle hsq1;have p0:(0:Int)≤(p:Int):=by omega
 have p1:(p:Int)<(ul:Int):=by omega
 have hul:ul≤1000:=by omega
 cases sb
 · rw[okF_no hx]
   clear h hc hfn hM hF hx hsq hsq1 hle hcm hnil hmem hcode hi h8 hl hlf
   go_enter Tryz.func150,Tryz.ntmps150
   exact qZ
 obtain⟨er,t,ks,hfe⟩:∃er t ks,insB8 x fn i p s=(er,t,ks):=⟨_,_,_,rfl⟩;rw[okF_yes hx hi hfe];have hfl:flowB x (j:Int) (p:Int) s=insB8 x fn i p s:=qF3 hc hfn hi;have hs8:s.length≤8:=h8 _ (qBQ hx);obtain⟨ns,hns⟩:∃ns,s.length=ns:=⟨_,rfl⟩;obtain⟨nk,hnk⟩:∃nk,ks.length=nk:=⟨_,rfl⟩;obtain⟨nt,hnt⟩:∃nt,t.length=nt:=⟨_,rfl⟩;rw[hns] at q1 hle hs8;have FA:Hid (∀v,Below w.heap.size w v→Calls Tryz.prog 151 #[.agg #[.slice A0 n0 d0,.slice A1 n1 d1,.slice A2 n2 d2,.slice A3 n3 d3,.slice A4 n4 d4],.int .i64 (j:Int),.int .i64 (p:Int),.slice G ns g] v (Flows (er,t,ks) v)):=fun v hb=>by
  have:=qI4 _ x (j:Int) (p:Int) G ns g s v (qCA h hb) ⟨by omega,by omega⟩ ⟨by omega,by omega⟩ hns (qCE hsq1 hb) (by omega) hle (by unfold maxLen at hcm;omega) hnil
  rwa [hfl,hfe] at this
 have HTh:Hid (er=0→ks.length≤2∧∀k∈ks,0≤k∧k.toNat<ul):=fun e=>by
  subst e;refine⟨qIY hfe,fun k hk=> ?_⟩;have:=qER hc hmem hi hfe k hk
  rwa [←hlf,hl] at this
 have HSq:Hid (∀v,Below w.heap.size w v→Sq shpL (·<v.heap.size) v (some aD) l):=fun v hb=>qCE hsq hb;have HL:Hid (∀v:World,(∀b,b<w.heap.size→v.heap[b]? =w.heap[b]?)→v.cell? ⟨PM,0,none⟩=some (.slice A0 n0 d0)∧v.cell? ⟨PM,1,none⟩=some (.slice A1 n1 d1)∧v.cell? ⟨PM,2,none⟩=some (.slice A2 n2 d2)∧v.cell? ⟨PM,3,none⟩=some (.slice A3 n3 d3)∧v.cell? ⟨PM,4,none⟩=some (.slice A4 n4 d4)∧v.cell? ⟨PF,0,none⟩=some (.int .i64 (j:Int))∧v.cell? ⟨PS,0,none⟩=some (.slice (some aD) ul dl)∧v.cell? ⟨(aD.add (p*2)).block,(aD.add (p*2)).off+1,none⟩=some (.slice G ns g)):=fun v hv=>
  have k:∀{q:Addr} {u:Value},w.cell? q=some u→v.cell? q=some u:=fun {q u} hq=>(qBd (hv q.block (qBR w _ hq))).trans hq
  ⟨k hM.1,k hM.2.1,k hM.2.2.1,k hM.2.2.2.1,k hM.2.2.2.2,k hF,k hS,k q1⟩
 have HS:Hid (∀v,Below w.heap.size w v→v.cell? ⟨PM,0,none⟩=some (.slice A0 n0 d0)∧v.cell? ⟨PM,1,none⟩=some (.slice A1 n1 d1)∧v.cell? ⟨PM,2,none⟩=some (.slice A2 n2 d2)∧v.cell? ⟨PM,3,none⟩=some (.slice A3 n3 d3)∧v.cell? ⟨PM,4,none⟩=some (.slice A4 n4 d4)∧v.cell? ⟨PF,0,none⟩=some (.int .i64 (j:Int))∧v.cell? ⟨PS,0,none⟩=some (.slice (some aD) ul dl)∧v.cell? ⟨(aD.add (p*2)).block,(aD.add (p*2)).off+1,none⟩=some (.slice G ns g)):=fun v hb=>HL.out v fun b h=>hb.block b h;have SW:=qBK (HS.out w (qBO _ _));have HLl:=qBK hl;have HNT:=qBK hnt;have HNK:=qBK hnk;clear h hc hfn hM hF hx hsq hsq1 hle hcm hnil hmem hcode hi h8 hl hlf q1 hfl hfe hns hnk hnt
 go_enter Tryz.func150,Tryz.ntmps150
 go_wp2_with fail
 go_region_held3 (fun v=>v.cell? ⟨PM,0,none⟩=some (.slice A0 n0 d0)∧v.cell? ⟨PM,1,none⟩=some (.slice A1 n1 d1)∧v.cell? ⟨PM,2,none⟩=some (.slice A2 n2 d2)∧v.cell? ⟨PM,3,none⟩=some (.slice A3 n3 d3)∧v.cell? ⟨PM,4,none⟩=some (.slice A4 n4 d4)∧v.cell? ⟨PF,0,none⟩=some (.int .i64 (j:Int))∧v.cell? ⟨PS,0,none⟩=some (.slice (some aD) ul dl)∧v.cell? ⟨(aD.add (p*2)).block,(aD.add (p*2)).off+1,none⟩=some (.slice G ns g))
  (first|exact SS5.out|exact SW.out|exact HS.out _ (qBO _ w).drew|exact HS.out _ ((qBO _ w).drew.alloc (qBL _) _)|(have hz:=HB5.out;clear hz;first|exact HS.out _ (HB5.out.alloc HB5.out.size _)|exact HL.out _ fun b hb=>(qBP _ ⟨w.heap.size,0,none⟩ _ b (by show b≠w.heap.size;omega)).trans (HB5.out.block b hb)|exact HL.out _ fun b hb=>(qBP _ ⟨w5.heap.size,0,none⟩ _ b (by have:=HB5.out.size;show b≠w5.heap.size;omega)).trans ((HB5.out.alloc HB5.out.size _).block b hb)))
  (first
  |(go_at_call 151
    refine(FA.out _ (qBO _ w).drew).mono ?_;intro e w5 hq;obtain⟨hb5,v5,u5,rfl,ho5,hu5,h64⟩:=qEQ hq;have HB5:Hid (Below w.heap.size w w5):=(qBO _ w).drew.trans (hb5.mono (by simp));have SS5:=qBK (HS.out _ HB5.out);obtain⟨A5,c5,rfl,-,hle5,hcm5,hsq5⟩:=qFk ho5 h64;have HC5:Hid (t.length≤9223372036854775807):=(by show _≤_;unfold maxLen at hcm5;omega);obtain⟨B5,d5,rfl,-,-,hnu5⟩:=qEW hu5;have HSQ5:=qBK hsq5;have HNU5:=qBK hnu5;clear hb5 ho5 hu5 h64 hsq5 hnu5 hq hle5 hcm5)
  |(go_at_call 151
    refine(FA.out _ ((qBO _ w).drew.alloc (qBL _) _)).mono ?_;intro e w5 hq;obtain⟨hb5,v5,u5,rfl,ho5,hu5,h64⟩:=qEQ hq;have HB5:Hid (Below w.heap.size w w5):=((qBO _ w).drew.alloc (qBL _) _).trans (hb5.mono (by simp));have HBk5:Hid (Blk w5 w.heap.size 62 #[.slice none 0 0]):=qBf (qBl (by simp)) hb5 (by simp);have hra5:=HBk5.out.cell 0;have hfa5:=HBk5.out.frozen 0;have SS5:=qBK (HS.out _ HB5.out);obtain⟨A5,c5,rfl,-,hle5,hcm5,hsq5⟩:=qFk ho5 h64;have HC5:Hid (t.length≤9223372036854775807):=(by show _≤_;unfold maxLen at hcm5;omega);obtain⟨B5,d5,rfl,-,-,hnu5⟩:=qEW hu5;have HSQ5:=qBK hsq5;have HNU5:=qBK hnu5;clear hb5 ho5 hu5 h64 hsq5 hnu5 hq hle5 hcm5))
 · go_upto_region 4 with(fail)
   refine qBV fun W6 hW6=> ?_;obtain⟨G6,hG6⟩:∃G6,w5.heap.size=G6:=⟨_,rfl⟩;have HB6:Hid (Below w.heap.size w W6):=by show Below _ _ _;rw[hW6];exact HB5.out.alloc HB5.out.size _
   have HBox:Hid (W6.cell? ⟨G6,0,none⟩=some (.slice A5 t.length c5)):=by show _=_;rw[hW6,←hG6];simp[go_sem]
   have hb56:Below w5.heap.size w5 W6:=by rw[hW6];exact qBe w5 _
   have HSQ6:Hid (Sq typL (·<W6.heap.size) W6 A5 t):=qCE (HSQ5.out.wide fun b h=>h.2) hb56;have HNU6:Hid (∀(j:Nat) (x:Int),ks[j]? =some x→∃a,B5=some a∧a.block<W6.heap.size∧W6.cell? (a.add j)=some (.int .i64 x)):=fun jj xx hx=>by
    obtain⟨aa,ea,-,hlt,hcc⟩:=HNU5.out jj xx hx;exact⟨aa,ea,qBN hlt hb56.size,(hb56.cell (p:=aa.add jj) (by rw[qBn];exact hlt)).trans hcc⟩
   rw[hG6];clear hW6 hb56 hG6;exact qH
 · go_upto_region 4 with(fail)
   refine qBV fun W6 hW6=> ?_;obtain⟨G6,hG6⟩:∃G6,w.heap.size=G6:=⟨_,rfl⟩;have HB6:Hid (Below w.heap.size w W6):=by
    show Below _ _ _
    rw[hW6];exact⟨HB5.out.os,HB5.out.tape,HB5.out.output,by simpa[World.setCell] using HB5.out.size,fun b hb=>(qBP _ ⟨w.heap.size,0,none⟩ _ b (by show b≠w.heap.size;omega)).trans (HB5.out.block b hb)⟩
   have HBox:Hid (W6.cell? ⟨G6,0,none⟩=some (.slice A5 t.length c5)):=by show _=_;rw[hW6,←hG6];exact World.cell?_setCell_same _ _ _ (u:= .slice none 0 0) hra5
   have hs56:W6.heap.size=w5.heap.size:=by rw[hW6];simp[World.setCell]
   have hk56:∀b,b≠w.heap.size→W6.heap[b]? =w5.heap[b]? :=fun b hb=>by rw[hW6];exact qBP _ ⟨w.heap.size,0,none⟩ _ b hb
   have HSQ6:Hid (Sq typL (·<W6.heap.size) W6 A5 t):=(HSQ5.out.keep fun b h=>hk56 b (by have:=h.1;(try simp at this);omega)).wide fun b h=>by have:=h.2;rw[hs56];exact this
   have HNU6:Hid (∀(j:Nat) (x:Int),ks[j]? =some x→∃a,B5=some a∧a.block<W6.heap.size∧W6.cell? (a.add j)=some (.int .i64 x)):=fun jj xx hx=>by
    obtain⟨aa,ea,hge,hlt,hcc⟩:=HNU5.out jj xx hx;exact⟨aa,ea,by rw[hs56];exact hlt,(qBd (hk56 _ (by rw[qBn];(try simp at hge);omega))).trans hcc⟩
   rw[hG6];clear hW6 hk56 hs56 hG6;exact qH
theorem qIe (cs:List Value) (x:Mod) (w:World) (h:modL.R (·<w.heap.size) w cs x):Calls Tryz.prog 58 #[vAgg cs] w (Tells (mainB x) w):=by
 refine jb ?_;intro TE;obtain⟨_,_,_,_,_,rfl,⟨A0,d0,e0,-⟩,⟨A1,d1,e1,l1,m1,s1⟩,⟨A2,d2,e2,-⟩,⟨A3,d3,e3,-⟩,⟨A4,d4,e4,-⟩⟩:=h;simp only[List.cons.injEq,and_true] at e0 e1 e2 e3 e4;subst e0 e1 e2 e3 e4;obtain⟨n1,h1⟩:∃n,x.funcs.length=n:=⟨_,rfl⟩;rw[h1] at TE⊢;generalize x.recs.length=n0 at*;generalize x.imps.length=n2 at*;generalize x.ints.length=n3 at*;generalize x.texts.length=n4 at*;refine jW ?_;intro TE2;clear TE
 show Calls Tryz.prog 58 #[.agg #[.slice A0 n0 d0,.slice A1 n1 d1,.slice A2 n2 d2,.slice A3 n3 d3,.slice A4 n4 d4]] w (Tells (mainB x) w)
 refine jk ?_;intro HB0;refine jI ?_;intro HC0
 by_cases hc:checkN x=0
 rotate_left
 · have HN:=qBK (qD8 hc)
   have b:(checkN x != 0)=true:=by simpa using hc
   generalize mainB x=mb at*;generalize checkN x=cn at*;clear hc s1 h1
   go_enter Tryz.func58,Tryz.ntmps58
   go_wp2_with (first
    |(go_at_call 57
      refine(TE2.out _ (HB0.out _)).mono ?_;rintro e w1 ⟨rfl,hb1⟩;refine qAC ?_;intro HB1;clear hb1))
   go_ret;exact⟨by rw[HN.out];rfl,HB1.out⟩
 · have hF:=qBw.1 (qBo hc)
   have hf1:=hF.f1;have hf8:=hF.f8;obtain⟨f,fs,hfs⟩:∃f fs,x.funcs=f::fs:=by
    cases hx:x.funcs with
    |nil=>rw[hx] at hf1;simp at hf1
    |cons f fs=>exact⟨f,fs,rfl⟩
   have HN:=qBK (qGn hc hfs);rw[hc] at TE2;obtain⟨a,cs,ea,hab,hcl,hR⟩:=s1.at (k:=0) (x:=f) (by rw[hfs];rfl);subst ea;obtain⟨p0,p1,p2,rfl,-,-,⟨P0,c0,e4,-⟩,⟨P1,c1,e5,-⟩,⟨P2,c2,e6,-⟩⟩:=hR;simp only[List.cons.injEq,and_true] at e4 e5 e6;subst e4 e5 e6;have HCL:Hid (∀w1,Below w.heap.size w w1→w1.cell? a=some (.slice P0 f.args.length c0)∧w1.cell? ⟨a.block,a.off+1,none⟩=some (.int .i64 f.ret.1)∧w1.cell? ⟨a.block,a.off+2,none⟩=some (.int .i64 f.ret.2)∧w1.cell? ⟨a.block,a.off+3,none⟩=some (.slice P1 f.locs.length c1)∧w1.cell? ⟨a.block,a.off+4,none⟩=some (.slice P2 f.code.length c2)):=fun w1 hb=>by
    have k0:=hcl 0 _ rfl;have k1:=hcl 1 _ rfl;have k2:=hcl 2 _ rfl;have k3:=hcl 3 _ rfl;have k4:=hcl 4 _ rfl;simp only[Nat.zero_mul,Nat.zero_add] at k0 k1 k2 k3 k4;have e0:a.add 0=a:=by simp[Addr.add]
    have en:∀i,0<i→a.add i=⟨a.block,a.off+i,none⟩:=fun i hi=>by
     have h:i≠0:=by omega
     simp[Addr.add,h]
    rw[e0] at k0;rw[en _ (by omega)] at k1 k2 k3 k4;exact⟨(hb.cell (p:=a) hab).trans k0,(hb.cell (p:=⟨a.block,a.off+1,none⟩) hab).trans k1,(hb.cell (p:=⟨a.block,a.off+2,none⟩) hab).trans k2,(hb.cell (p:=⟨a.block,a.off+3,none⟩) hab).trans k3,(hb.cell (p:=⟨a.block,a.off+4,none⟩) hab).trans k4⟩
   have hn1:0<n1:=by rw[←h1];exact hf1
   have hn1':(0:Int)<(n1:Int):=by omega
   clear hc hF hf1 hf8 hfs h1 s1 hcl l1 m1;generalize mainB x=mb at*;generalize f.args.length=u0 at*;generalize f.locs.length=u1 at*;generalize f.code.length=u2 at*;generalize f.ret.1=k1 at*;generalize f.ret.2=k2 at*;rcases Nat.eq_zero_or_pos u0 with hu|hu
   · subst hu
     go_enter Tryz.func58,Tryz.ntmps58
     go_wp2_with (first
      |(go_at_call 57
        refine(TE2.out _ (HB0.out _)).mono ?_;rintro e w1 ⟨rfl,hb1⟩;refine j5 ?_;intro HB1 x0 x1 x2 x3 x4;obtain⟨y0,y1,y2,y3,y4⟩:=HCL.out _ HB1.out;clear hb1))
     go_ret;exact⟨by rw[HN.out];simp;rfl,HB1.out.alloc HB1.out.size _⟩
   · have hd:((u0:Int)==0)=false:=by simp;omega
     have hd2:(u0==0)=false:=by simp;omega
     go_enter Tryz.func58,Tryz.ntmps58
     go_wp2_with (first
      |(go_at_call 57
        refine(TE2.out _ (HB0.out _)).mono ?_;rintro e w1 ⟨rfl,hb1⟩;refine j5 ?_;intro HB1 x0 x1 x2 x3 x4;obtain⟨y0,y1,y2,y3,y4⟩:=HCL.out _ HB1.out;clear hb1))
     go_ret;exact⟨by rw[HN.out,decide_eq_false (show ¬u0=0 by omega)];rfl,HB1.out.alloc HB1.out.size _⟩
theorem qJz (cs:List Value) (x:Mod) (A:Option Addr) (n c:Nat) (L:List (List Shape)) (w:World) (h:modL.R (·<w.heap.size) w cs x) (hl:L.length=n) (hL:Sq rowL (·<w.heap.size) w A L) (hnm:n≤9223372036854775807):Calls Tryz.prog 50 #[vAgg cs,.slice A n c] w (RRight x L w):=by
 have TM:Hid (∀w1,Below w.heap.size w w1→Calls Tryz.prog 58 #[vAgg cs] w1 (Tells (mainB x) w1)):=fun w1 hb=>qIe cs x w1 (qCA h hb);have MD:Hid (∀w1,Below w.heap.size w w1→modL.R (·<w1.heap.size) w1 cs x):=fun w1 hb=>qCA h hb;obtain⟨n1,h1⟩:∃n,x.funcs.length=n:=⟨_,rfl⟩;have HN1:=qBK h1;have HLl:=qBK hl;have HL:Hid (∀v,Below w.heap.size w v→Sq rowL (·<v.heap.size) v A L):=fun v hb=>qCE hL hb;obtain⟨_,_,_,_,_,rfl,⟨A0,d0,e0,-⟩,⟨A1,d1,e1,l1,m1,s1⟩,⟨A2,d2,e2,-⟩,⟨A3,d3,e3,-⟩,⟨A4,d4,e4,-⟩⟩:=h;simp only[List.cons.injEq,and_true] at e0 e1 e2 e3 e4;subst e0 e1 e2 e3 e4;have HFn:Hid (∀(k:Nat) (fn:Fn),x.funcs[k]? =some fn→∃a P2 c2,A1=some a∧∀v,Below w.heap.size w v→v.cell? ⟨(a.add (k*5)).block,(a.add (k*5)).off+4,none⟩=some (.slice P2 fn.code.length c2)):=fun k fn hf=>by
  obtain⟨a,ccs,ea,hab,hcl,hR⟩:=s1.at hf;obtain⟨p0,p1,p2,rfl,-,-,⟨P0,c0,e4,-⟩,⟨P1,c1,e5,-⟩,⟨P2,c2,e6,-⟩⟩:=hR;simp only[List.cons.injEq,and_true] at e4 e5 e6;subst e4 e5 e6;refine⟨a,P2,c2,ea,fun v hb=> ?_⟩;have k4:=(hb.cell (p:=a.add (k*5+4)) qD).trans (hcl 4 _ rfl);rw[qBT a (k*5) 4 (by omega)] at k4;exact k4
 rw[h1] at TM MD⊢;generalize x.recs.length=n0 at*;generalize x.imps.length=n2 at*;generalize x.ints.length=n3 at*;generalize x.texts.length=n4 at*;simp only[vAgg] at TM MD⊢;clear h1 hl hL s1 l1 m1
 go_enter Tryz.func50,Tryz.ntmps50
 go_upto_region 1 with(fail)
 refine qBV fun W hW=> ?_;refine qAO ?_;intro HBW HBx hsW;clear hW;have HBV:Hid (∀v,Below W.heap.size W v→v.cell? ⟨w.heap.size,0,none⟩=some (.slice A0 n0 d0)∧v.cell? ⟨w.heap.size,1,none⟩=some (.slice A1 n1 d1)∧v.cell? ⟨w.heap.size,2,none⟩=some (.slice A2 n2 d2)∧v.cell? ⟨w.heap.size,3,none⟩=some (.slice A3 n3 d3)∧v.cell? ⟨w.heap.size,4,none⟩=some (.slice A4 n4 d4)):=fun v hb=>by
  have hf:=qBf HBx.out hb hsW;exact⟨hf.cell 0,hf.cell 1,hf.cell 2,hf.cell 3,hf.cell 4⟩
 refine jL ?_;intro HBB;obtain⟨z0,z1,z2,z3,z4⟩:=HBV.out W (qBO _ _)
 cases hmn:mainB x
 · have HMn:=qBK hmn
   rw[hmn] at TM;clear hmn
   go_wp2_with (first
    |(go_at_call 58
      refine(TM.out _ HBW.out).mono ?_;rintro e w1 ⟨rfl,hb1⟩;have HB1:=qBK hb1;clear hb1))
   go_ret;exact qCi (HBB.out _ HB1.out) fun h1 _=>by rw[HMn.out] at h1;cases h1
 have HMn:=qBK hmn;rw[hmn] at TM;have hc:checkN x=0:=by
  rcases Decidable.em (checkN x=0) with h|h
  · exact h
  · rw[qD8 h] at hmn;cases hmn
 have HC:=qBK hc;have hn8:n1≤8:=by have:=(qBw.1 (qBo hc)).f8;rw[HN1.out] at this;omega
 clear hmn hc
 by_cases hnn:n=n1
 rotate_left
 · have hne:¬(n:Int)=(n1:Int):=by omega
   have HNe:=qBK hnn;clear hnn
   go_wp2_with (first
    |(go_at_call 58
      refine(TM.out _ HBW.out).mono ?_;rintro e w1 ⟨rfl,hb1⟩;have HB1:=qBK hb1;obtain⟨y0,y1,y2,y3,y4⟩:=HBV.out w1 hb1;clear hb1 z0 z1 z2 z3 z4))
   go_ret;exact qCi (HBB.out _ HB1.out) fun _ h2=>HNe.out (by rw[←HLl.out,h2.len,HN1.out])
 subst hnn
 go_wp2_with (first
  |(go_at_call 58
    refine(TM.out _ HBW.out).mono ?_;rintro e w1 ⟨rfl,hb1⟩;have HB1:=qBK hb1;obtain⟨y0,y1,y2,y3,y4⟩:=HBV.out w1 hb1;clear hb1 z0 z1 z2 z3 z4))
 clear y0 y1 y2 y3 y4
 go_loopw [23] (fun i wr=>∃k:Nat,k≤n∧i= .int .i64 (k:Nat)∧Below W.heap.size W wr∧∀(j:Nat) (fn:Fn) (l:List Shape),j<k→x.funcs[j]? =some fn→L[j]? =some l→l.length=fn.code.length∧(∀y∈l,y.2.length≤8)∧RightF x fn (toS l)) (fun i _=>n-(intOf i).toNat)
 case atStart=>exact⟨0,qBU _,rfl,HB1.out,fun j fn l h=>absurd h (by omega)⟩
 case round=>
  obtain⟨wf,eW⟩:∃wf,wf=wr:=⟨_,rfl⟩;subst eW;obtain⟨k,hk,rfl,hbf,hall⟩:=hrel;have HBf:=qBK hbf;have HAll:=qBK hall;clear HB1 hbf hall
  by_cases hlt:k<n
  · obtain⟨fn,hf⟩:∃fn,x.funcs[k]? =some fn:=⟨x.funcs[k]'(by rw[HN1.out];exact hlt),List.getElem?_eq_getElem _⟩
    obtain⟨l,hx⟩:∃l,L[k]? =some l:=⟨L[k]'(by rw[HLl.out];exact hlt),List.getElem?_eq_getElem _⟩;have hmem:=qBQ hf;have hcode0:0<fn.code.length:=by
     have:=(qBw.1 (qBo HC.out)).funcs fn hmem;simp only[fnOk,Bool.and_eq_true,qB0] at this
     omega
    obtain⟨-,-,hcode,-⟩:=qCl HC.out hmem;obtain⟨a,P2,c2,rfl,hcl⟩:=HFn.out k fn hf;have z5:=hcl _ (HBB.out _ HBf.out);obtain⟨aL,D,dl,rfl,-,hr0,hrle,hrcm,-⟩:=qHN (HL.out _ (HBB.out _ HBf.out)) hx;have HSl:Hid (∀v,Below w.heap.size w v→Sq shpL (·<v.heap.size) v D l):=fun v hb=>by
     obtain⟨aL',D',dl',e,-,hr1,-,-,hs⟩:=qHN (HL.out v hb) hx;injection e with e;subst e;obtain⟨aL2,D2,dl2,e2,hb2,hr2,-,-,hs2⟩:=qHN (HL.out w (qBO _ _)) hx;injection e2 with e2;subst e2;have hq:=(hb.cell (p:=aL.add k) (by rw[qBn];exact hb2)).trans hr2;have hq2:=((HBB.out _ HBf.out).cell (p:=aL.add k) (by rw[qBn];exact hb2)).trans hr2;rw[hr0] at hq2;rw[hr1] at hq;simp only[Option.some.injEq,Value.slice.injEq,true_and] at hq hq2;rw[←hq2.1] at hq;rw[←hq.1];exact hs
    have HF:=qBK hf;have HX:=qBK hx;have HMem:=qBK hmem;obtain⟨uc,huc⟩:∃uc,fn.code.length=uc:=⟨_,rfl⟩;obtain⟨ul,hul⟩:∃ul,l.length=ul:=⟨_,rfl⟩;have HUC:=qBK huc;have HUL:=qBK hul;rw[huc] at z5 hcode hcode0;rw[hul] at hr0 hrle;obtain⟨y0,y1,y2,y3,y4⟩:=HBV.out _ HBf.out;have k0:(0:Int)≤(k:Int):=by omega
    have k1:(k:Int)<(n:Int):=by omega
    have hrcm':dl≤9223372036854775807:=by unfold maxLen at hrcm;omega
    have hsf:=HBf.out.size;clear hf hx hmem hcl huc hul hrcm
    by_cases hlu:ul=uc
    rotate_left
    · have hne:¬(ul:Int)=(uc:Int):=by omega
      have HNe:=qBK hlu;clear hlu
      go_wp2_with fail
      go_ret;exact qCi (HBB.out _ HBf.out) fun _ h2=>HNe.out (by rw[←HUL.out,←HUC.out];exact(h2.at_ k fn l HF.out HX.out).1)
    subst hlu;have CT:Hid (∀w1,Below w.heap.size w w1→Calls Tryz.prog 87 #[.slice D ul dl,.func (.func 88) #[] #[]] w1 (Tells (l.any highB) w1)):=fun w1 hb=>qHk D ul dl l highB w1 HUL.out (HSl.out w1 hb) (by omega) fun w2 cs y _ _ hr=>qN8 y w2 cs hr
    cases hhi:l.any highB
    rotate_left
    · rw[hhi] at CT
      have HHi:=qBK hhi;clear hhi
      go_wp2_with (first
       |(go_at_call 87
         refine(CT.out _ (HBB.out _ HBf.out)).mono ?_;rintro e w7 ⟨rfl,hb7⟩;have HB7:=qBK (HBf.out.trans (hb7.mono hsf));clear hb7))
      go_ret;refine qCi (HBB.out _ HB7.out) fun _ h2=> ?_;obtain⟨y,hy,hy2⟩:=List.any_eq_true.1 HHi.out;have:=(h2.at_ k fn l HF.out HX.out).2.1 y hy;simp only[highB,decide_eq_true_eq] at hy2
      omega
    rw[hhi] at CT;have H8:Hid (∀y∈l,y.2.length≤8):=fun y hy=>by
     have:=List.any_eq_false.1 hhi y hy;simp only[highB,decide_eq_true_eq] at this
     omega
    obtain⟨⟨b0,s0⟩,hx0⟩:∃y,l[0]? =some y:=⟨l[0]'(by rw[HUL.out];exact hcode0),List.getElem?_eq_getElem _⟩;obtain⟨m0,hm0⟩:∃m0,s0.length=m0:=⟨_,rfl⟩;obtain⟨aD,G0,g0,rfl,hab0,q0,q1,-,-,-,-⟩:=qHK (HSl.out w (qBO _ _)) hx0;simp only[Nat.zero_mul,hm0] at q0 q1;rw[show aD.add 0=aD by simp[Addr.add]] at q0 q1;have HQ:Hid (∀v,Below w.heap.size w v→v.cell? aD=some (.bool b0)∧v.cell? ⟨aD.block,aD.off+1,none⟩=some (.slice G0 m0 g0)):=fun v hb=>⟨(hb.cell (p:=aD) hab0).trans q0,(hb.cell (p:=⟨aD.block,aD.off+1,none⟩) hab0).trans q1⟩;clear q0 q1;have HX0:=qBK hx0;have HM0:=qBK hm0;have hrp:(0:Int)<(ul:Int):=by omega
    clear hx0 hhi hm0
    go_upto_region 8 with(first
     |(go_at_call 87
       refine(CT.out _ (HBB.out _ HBf.out)).mono ?_;rintro e w7 ⟨rfl,hb7⟩;have HB7:=qBK (HBf.out.trans (hb7.mono hsf));obtain⟨q0,q1⟩:=HQ.out w7 (HBB.out _ HB7.out);clear hb7))
    go_upto_region 9 with(fail)
    refine qBV fun W8 hW8=> ?_;have HB8:Hid (Below W.heap.size W W8):=by show Below _ _ _;rw[hW8];exact HB7.out.alloc HB7.out.size _
    have hq8:W8.cell? ⟨w7.heap.size,0,none⟩=some (.bool b0)∧W8.cell? ⟨w7.heap.size,1,none⟩=some (.slice G0 m0 g0):=by rw[hW8];simp[go_sem]
    have hs8:=HB8.out.size;clear hW8 q0 q1 z5 hr0 y0 y1 y2 y3 y4;obtain⟨q0,q1⟩:=hq8
    cases b0
    · go_wp2_with fail
      go_ret;refine qCi (HBB.out _ HB8.out) fun _ h2=> ?_;have:=(h2.at_ k fn l HF.out HX.out).2.2.zero;rw[qEK HX0.out] at this
      cases this
    by_cases h00:m0=0
    rotate_left
    · have hgt:(0:Int)<(m0:Int):=by omega
      have HNe:=qBK h00;clear h00
      go_wp2_with fail
      go_ret;refine qCi (HBB.out _ HB8.out) fun _ h2=> ?_;have:=(h2.at_ k fn l HF.out HX.out).2.2.zero;rw[qBx HX0.out] at this;injection this with this;exact HNe.out (by rw[←HM0.out,this];rfl)
    have HZ0:Hid (toS l 0=some []):=by
     show _=_
     have hs0:s0=[]:=qBY (by rw[HM0.out];exact h00);rw[qBx HX0.out,hs0]
    subst h00;obtain⟨y0,y1,y2,y3,y4⟩:=HBV.out _ HB8.out
    go_wp2_with (first
     |(go_at_call 89
       refine(qHt _ _ _ _ _ _ _ _ _ _).mono ?_;rintro e w9 ⟨rfl,hb9,hs9,hM9,hF9,hS9⟩;have HB9:=qBK (HB8.out.trans (hb9.mono hs8));have HM9:=qBK hM9;have HF9:=qBK hF9;have HS9:=qBK hS9;clear hb9 hM9 hF9 hS9))
    clear q0 q1 y0 y1 y2 y3 y4;have hs9':=HB9.out.size
    go_loopw [60] (fun i wr=>∃q:Nat,q≤ul∧i= .int .i64 (q:Nat)∧Below w9.heap.size w9 wr∧∀p,p<q→okF x fn l p=true) (fun i _=>ul-(intOf i).toNat)
    case atStart=>exact⟨0,qBU _,rfl,qBO _ _,fun p h=>absurd h (by omega)⟩
    case round=>
     obtain⟨wp,eW⟩:∃wp,wp=wr:=⟨_,rfl⟩;subst eW;obtain⟨q,hq,rfl,hbp,hoka⟩:=hrel;have HBp:=qBK hbp;have HOka:=qBK hoka;have hsp:=hbp.size;have HBWp:=qBK (HB9.out.trans (hbp.mono hs9'));clear hbp hoka
     by_cases hltq:q<ul
     · have WR:Hid (Calls Tryz.prog 150 #[.int .i64 (q:Int),.pointer (some ⟨W8.heap.size+2,0,none⟩),.pointer (some ⟨W8.heap.size,0,none⟩),.pointer (some ⟨W8.heap.size+1,0,none⟩)] wp (Tells (!okF x fn l q) wp)):=
        qJK W8.heap.size (W8.heap.size+1) (W8.heap.size+2) A0 (some a) A2 A3 A4 (some aD) n0 n n2 n3 n4 d0 d1 d2 d3 d4 ul dl x k q fn l wp (MD.out _ (HBB.out _ HBWp.out)) HC.out HF.out (HM9.out.below HBp.out (by omega)) ((HBp.out.cell (p:=⟨W8.heap.size+1,0,none⟩) (by show W8.heap.size+1<_;omega)).trans HF9.out) ((HBp.out.cell (p:=⟨W8.heap.size+2,0,none⟩) (by show W8.heap.size+2<_;omega)).trans HS9.out) HUL.out (by rw[HUL.out,HUC.out]) H8.out (HSl.out _ (HBB.out _ HBWp.out)) hltq
       have k2:(0:Int)≤(q:Int):=by omega
       have k3:(q:Int)<(ul:Int):=by omega
       cases hok:okF x fn l q
       · rw[hok] at WR
         have HOk:=qBK hok;clear hok
         go_wp2_with (first
          |(go_at_call 150
            refine WR.out.mono ?_;rintro e w10 ⟨rfl,hb10⟩;have HB10:=qBK (HBWp.out.trans (hb10.mono HBWp.out.size));clear hb10))
         go_ret;refine qCi (HBB.out _ HB10.out) fun _ h2=> ?_;have:=okF_of ((h2.at_ k fn l HF.out HX.out).2.2.at_ q (by rw[HUC.out];exact hltq));rw[HOk.out] at this
         cases this
       · rw[hok] at WR
         have HOk:=qBK hok;clear hok
         go_wp2_with (first
          |(go_at_call 150
            refine WR.out.mono ?_;rintro e w10 ⟨rfl,hb10⟩;have HB10:=qBK (HBp.out.trans (hb10.mono hsp));clear hb10))
         refine⟨⟨q+1,by omega,by simp,HB10.out,fun p hp=> ?_⟩,by simp[intOf];omega⟩
         by_cases e:p=q
         · subst e
           exact HOk.out
         · exact HOka.out p (by omega)
     · obtain rfl:q=ul:=by omega
       go_wp2_with fail
       refine⟨⟨k+1,by omega,by simp,HBWp.out,fun j fn2 l2 hj h1 h2=> ?_⟩,by simp[intOf];omega⟩
       by_cases e:j=k
       · subst e
         rw[HF.out] at h1;rw[HX.out] at h2;injection h1 with h1;injection h2 with h2;subst h1 h2;exact⟨by rw[HUL.out,HUC.out],H8.out,HZ0.out,fun p hp=>qNM (HOka.out p (by rw[←HUC.out];exact hp))⟩
       · exact HAll.out j fn2 l2 (by omega) h1 h2
  · obtain rfl:k=n:=by omega
    go_wp2_with fail
    go_ret;exact⟨HBB.out _ HBf.out,true,rfl,⟨fun _=>⟨HMn.out,by rw[HLl.out,HN1.out],fun j fn l h1 h2=>HAll.out j fn l (by have:=(qBM.1 h1).1;rw[HN1.out] at this;exact this) h1 h2⟩,fun _=>rfl⟩⟩
theorem qHM {g:Nat} {args:Array Value} {x:Mod} {L:List (List Shape)} {b:Bool} (h:Calls Tryz.prog g args w (RRight x L w)) (hb:b=true↔mainB x=true∧RightM x L):Calls Tryz.prog g args w fun e w'=>e= .returned (.bool b)∧Below w.heap.size w w':=by
 refine h.mono ?_;rintro e w' ⟨hb1,b',rfl,hi⟩;have e:b'=b:=by
  have h1:=hi.trans hb.symm
  cases b<;>cases b'<;>simp_all
 rw[e];exact⟨rfl,hb1⟩
end Go.Proofs.YtgdbhanhmenmfaaGreat
