/-
Vre
-/
import Derived.Test.YtelceoecekfamaaGreatQ18
import Derived.Deep.RegionHeld3
import Derived.Deep.RegionWith
import Derived.Deep.DeepCutAuto
import Derived.Lib.QuietBelow
import Derived.BigQuiet
set_option linter.unusedSimpArgs false
set_option linter.unusedVariables false
set_option maxRecDepth 100000
set_option maxHeartbeats 4000000
namespace Go.Proofs.YtelceoecekfamaaGreat
open Go.RowKit
theorem qH {P:Prop} (h:P:=by
 go_region
 go_wp2_with fail
 go_region
 go_upto_region 14 with(fail)
 refine qAs fun V3 hV3=> ?_;obtain⟨hW6,hzb⟩:=HGV.out V2 _ _ HJ12.out HW5.out;replace hW6:=(hW6.below (qAk _ _).drew).below (qAk _ _).drew;rw[←hV3] at hW6;have HW6:=qAg hW6;have HT6:Hid (Turn Z w V3):=by show Turn _ _ _;rw[hV3];exact((((HT.out.then HBR.out).set (by rw[hzb];simp) _).set (by rw[hzb];simp) _).then (qAk _ _).drew).then (qAk _ _).drew
 have g1:=hW6.box.cell 1;rw[HLW.out] at g1;have g1:V3.cell? ⟨g,1,none⟩=some (.slice (some ⟨q,0,none⟩) n n):=g1;obtain⟨bw,hbw⟩:∃bw,wj[pc]? =some bw:=⟨wj[pc]'(by rw[hW6.lenw,HLW.out];omega),List.getElem?_eq_getElem _⟩;have g2:=(hW6.wai.cellAt pc (by rw[HLW.out];omega)).trans (qFN hbw);have g3:=hW6.wai.frozenAt pc;clear hV3 hW6 hzb hbw d0 d1 e0 e1 e2 f1 f2
 go_wp2_with fail
 refine⟨⟨j+1,by omega,by simp,HT6.out.set (by rw[HW6.out.zq];simp) _,_,HW6.out.wait pc true,.inr ⟨qH1 HX'.out HY.out (.inr HNE.out),?_⟩⟩,by simp[intOf];omega⟩;rcases HWs.out with⟨-,e⟩|⟨-,e⟩<;>rw[e];rw[List.set_set]):P:=h
theorem Stk.mono {n0 n1:Nat} {w:World} {v:Value} {s:List Typ} (h:Stk n1 w v s) (hn:n0≤n1):Stk n0 w v s:=by
 rcases h with h|⟨h0,ha,b,c,e,h1,h2,ho⟩
 · exact .inl h
 · refine .inr ⟨h0,ha,b,c,e,h1,h2,ho.1,?_⟩
   rcases ho.2 with ho|⟨g',cap,cur,e,hb2,rest⟩
   · exact .inl ho
   · exact .inr ⟨g',cap,cur,e,qA8 hn hb2,rest⟩
theorem qIh {l:List Shape} {pc:Nat} {x:Shape} (h:l[pc]? =some x):l.set pc x=l:=qDr h
theorem qHq (n0 g p q:Nat) (Z:Nat→Option Nat) (w:World) (l:List Shape) (ws:List Bool) (r:List (Bool×Value)) (pc:Nat) (D:Option Addr) (k c:Nat) (t:List Typ) (h:Wk n0 g p q Z w l ws r) (hn0:n0≤w.heap.size) (hpc:pc<l.length) (hl:l.length≤1000000) (hk:t.length=k) (k8:k≤8) (hs:Sq typL (fun b=>b<w.heap.size∧Z b=none) w D t) (s:List Typ) (hx:l[pc]? =some (false,s)):
 Calls Tryz.prog 66 #[.pointer (some ⟨g,0,none⟩),.int .i64 (pc:Nat),.slice D k c] w (Reached n0 g p q Z w l ws pc t):=by
 obtain⟨A,cA,hr,-⟩:=h.cells hx;obtain⟨n,hn⟩:∃n,l.length=n:=⟨_,rfl⟩;have HW:=qAg h;have HC:Hid (∀v,Below w.heap.size w v→v.cell? ⟨g,0,none⟩=some (.slice (some ⟨p,0,none⟩) n n)∧v.cell? ⟨p,pc*2,none⟩=some (.bool false)∧v.cell? ⟨p,pc*2+1,none⟩=some (.slice A s.length cA)∧v.frozen? ⟨p,pc*2,none⟩=false∧v.frozen? ⟨p,pc*2+1,none⟩=false):=fun v hb=>by
  have hv:=HW.out.below hb;have h0:=hv.box.cell 0;obtain⟨A',c',e1,h1,h2,-⟩:=hv.cells hx;rw[hr] at e1;simp only[Option.some.injEq,Prod.mk.injEq,true_and,Value.slice.injEq] at e1;obtain⟨rfl,-,rfl⟩:=e1;rw[hn] at h0;exact⟨h0,h1,h2,hv.row.frozenAt _,hv.row.frozenAt _⟩
 have CL:Hid (∀v,Below w.heap.size w v→Calls Tryz.prog 94 #[.slice D k c] v fun e w'=>∃u,e= .returned u∧Stk v.heap.size w' u t∧Below v.heap.size v w'):=fun v hb=>qIJ D k c t v hk ((hs.keep (w':=v) fun b h1=>hb.block b h1.1).wide fun b h1=>qAh h1.1 hb.size) (by omega);have HX:=qAg hx;have HN:=qAg hn;have hp1:(pc:Int)<(n:Int):=by omega
 have hp0:(0:Int)≤(pc:Int):=by omega
 have HP:=qAg hpc;obtain⟨z0,z1,z2,z3,z4⟩:=HC.out w (qAk _ _);clear h hr hx hn hs hk hpc
 go_enter Tryz.func66,Tryz.ntmps66
 go_upto_region 4 with(first
  |(go_at_call 94
    refine(CL.out _ (qAk _ _)).mono ?_;rintro e w1 ⟨u,rfl,hst,hb1⟩;have HS:=qAg hst;have HB1:=qAg hb1;obtain⟨A1,c1,rfl,-⟩:=hst.shape;obtain⟨y0,y1,y2,y3,y4⟩:=HC.out _ hb1;clear hst hb1 z0 z1 z2 z3 z4))
 refine qAs fun V hV=> ?_;have hW1:=HW.out.below HB1.out;obtain⟨Z',hz',hW2⟩:=hW1.seen HP.out (HS.out.mono hn0) fun h0 b hb=>by
  cases e:Z b with
  |none=>rfl
  |some j=>
   have h1:=(HW.out.low b (by rw[e];simp)).2;obtain⟨b',e',h2,-⟩:=HS.out.own h0;rw[hb] at e';injection e' with e'
   omega
 have HT:Hid (Turn Z w V):=by
  show Turn Z w V
  rw[hV];exact((Turn.of_below HB1.out).set (by rw[HW.out.zp];simp) _).set (by rw[HW.out.zp];simp) _
 rw[←hV] at hW2;have HW2:=qAg hW2;have HZ:Hid (∀b,b<w.heap.size→Z' b=Z b):=fun b hb=>by
  by_cases e:Z' b=Z b
  · exact e
  · obtain⟨h0,h1⟩:=hz' b e
    obtain⟨b',e',h2,-⟩:=HS.out.own h0;rw[h1] at e';injection e' with e'
    omega
 have hlen:(l.set pc (true,t)).length=n:=by rw[List.length_set];exact HN.out
 have x1:=hW2.box.cell 1;rw[hlen] at x1;have hwl:ws.length=n:=by rw[HW.out.lenw];exact HN.out
 obtain⟨b0,hb0⟩:∃b0,ws[pc]? =some b0:=⟨_,List.getElem?_eq_getElem (by omega)⟩;have x2:=(hW2.wai.cellAt pc (by rw[hlen];omega)).trans (qFN hb0);have x3:=hW2.wai.frozenAt pc;clear hV hW1 hz' hW2 hlen hwl hb0 y0 y1 y2 y3 y4
 go_wp2_with fail
 go_ret;refine⟨HT.out.set (by rw[HW.out.zq];simp) _,.inr ⟨rfl,Z',_,_,_,HW2.out.wait pc true,HZ.out,.inl ⟨s,HX.out,rfl,rfl⟩⟩⟩
def Gone (n0 g p q:Nat) (Z:Nat→Option Nat) (w:World) (l:List Shape) (ws:List Bool) (r:List (Bool×Value)) (pc:Nat) (u t:List Typ) (j:Nat) (wr:World):Prop:=
 Turn Z w wr∧∃wj,Wk n0 g p q Z wr (l.set pc (true,mixJ u t j)) wj r∧((mixJ u t j=u∧wj=ws)∨(mixJ u t j≠u∧wj=ws.set pc true))
theorem qHp (n0 g p q:Nat) (Z:Nat→Option Nat) (w:World) (l:List Shape) (ws:List Bool) (r:List (Bool×Value)) (pc:Nat) (D:Option Addr) (k c:Nat) (t:List Typ) (h:Wk n0 g p q Z w l ws r) (hn0:n0≤w.heap.size) (hpc:pc<l.length) (hl:l.length≤1000000) (hk:t.length=k) (k8:k≤8) (hs:Sq typL (fun b=>b<w.heap.size∧Z b=none) w D t) (s:List Typ) (hx:l[pc]? =some (true,s)):
 Calls Tryz.prog 66 #[.pointer (some ⟨g,0,none⟩),.int .i64 (pc:Nat),.slice D k c] w (Reached n0 g p q Z w l ws pc t):=by
 obtain⟨A,cA,hr,hc0,hc1,hst,hle,hcm,-⟩:=h.cells hx;obtain⟨n,hn⟩:∃n,l.length=n:=⟨_,rfl⟩;obtain⟨ns,hns⟩:∃n,s.length=n:=⟨_,rfl⟩;simp only at hc0 hc1 hst hle hr;rw[hns] at hc1 hst hle hr;have hb0:=h.box.cell 0;rw[hn] at hb0;have hb0:w.cell? ⟨g,0,none⟩=some (.slice (some ⟨p,0,none⟩) n n):=hb0;have HW:=qAg h;have HX:=qAg hx;have HN:=qAg hn;have HNS:=qAg hns;have HK:=qAg hk;have HS:=qAg hs;have HR:=qAg hr;have HP:=qAg hpc;have hp1:(pc:Int)<(n:Int):=by omega
 have hp0:(0:Int)≤(pc:Int):=by omega
 clear h hr hx hn hns hs hk hpc hst
 by_cases hlk:ns=k
 rotate_left
 · have hne:¬(ns:Int)=(k:Int):=by omega
   go_enter Tryz.func66,Tryz.ntmps66
   go_wp2_with fail
   go_ret;exact⟨Turn.refl _ _,.inl ⟨rfl,s,HX.out,by rw[HNS.out,HK.out];exact hlk⟩⟩
 subst hlk;have HG0:Hid (Gone n0 g p q Z w l ws r pc s t 0 w):=⟨Turn.refl _ _,ws,by rw[qDC,qIh HX.out];exact HW.out,.inl ⟨qDC _ _,rfl⟩⟩;have hcm2:cA≤9223372036854775807:=by unfold maxLen at hcm;omega
 clear hcm
 go_enter Tryz.func66,Tryz.ntmps66
 go_wp2_with fail
 go_loopw [46] (fun i wr=>∃j:Nat,j≤ns∧i= .int .i64 (j:Nat)∧Gone n0 g p q Z w l ws r pc s t j wr) (fun i _=>ns-(intOf i).toNat)
 case atStart=>exact⟨0,qAq _,rfl,HG0.out⟩
 case round=>
  obtain⟨j,hj,rfl,hT,wj,hW,hws⟩:=hrel;clear HG0 hb0 hc0 hc1;have HT:=qAg hT;have HWj:=qAg hW;have HWs:=qAg hws;clear hT hW hws
  by_cases hlt:j<ns
  · obtain⟨y,hy⟩:∃y,t[j]? =some y:=⟨t[j]'(by rw[HK.out];exact hlt),List.getElem?_eq_getElem _⟩
    obtain⟨x,hx⟩:∃x,s[j]? =some x:=⟨s[j]'(by rw[HNS.out];exact hlt),List.getElem?_eq_getElem _⟩;have HX':=qAg hx;have HY:=qAg hy;have hm:=qD6 hx hy;have hml:(mixJ s t j).length=ns:=by rw[qI8 (by rw[HNS.out];omega) (by rw[HK.out];omega)];exact HNS.out
    have hxl:(l.set pc (true,mixJ s t j))[pc]? =some (true,mixJ s t j):=List.getElem?_set_self HP.out;have hstk:Stk n0 wr (.slice A ns cA) (mixJ s t j):=by
     obtain⟨v,h1,h2,-⟩:=HWj.out.stk pc _ hxl;rw[HR.out] at h1;simp only[Option.some.injEq,Prod.mk.injEq,true_and] at h1;rw[h1];exact h2
    obtain⟨bA,rfl⟩:∃bA,A=some ⟨bA,0,none⟩:=by
     rcases hstk with⟨e,-⟩|⟨_,_,b,c',e,-⟩
     · rw[e] at hml;simp at hml;omega
     · simp only[Value.slice.injEq] at e
       exact⟨b,e.1⟩
    have hown:wr.ownsRow n0 41 2 (.slice (some ⟨bA,0,none⟩) ns cA) ns (T2 (mixJ s t j)):=by
     rcases hstk with⟨e,-⟩|⟨_,_,b,c',e,_,_,ho⟩
     · rw[e] at hml;simp at hml;omega
     · simp only[Value.slice.injEq,Option.some.injEq,Addr.mk.injEq,and_true] at e
       obtain⟨rfl,rfl,rfl⟩:=e
       rwa [hml] at ho
    have hx64:=qHW hstk.a64 hm;have HGV:Hid (∀v k1 k2,joinT x y=(k1,k2)→Wk n0 g p q Z v (l.set pc (true,mixJ s t j)) wj r→Wk n0 g p q Z ((v.setCell ⟨bA,j*2,none⟩ (.int .i64 k1)).setCell ⟨bA,j*2+1,none⟩ (.int .i64 k2)) (l.set pc (true,mixJ s t (j+1))) wj r∧Z bA=some (pc+3)):=fun v k1 k2 e hv=>by
     have h1:=hv.give hxl HR.out (j:=j) (t:=joinT x y) (by rw[hml];exact hlt) (qFx hx64 (qHW HS.out.a64 hy));rw[qDD hx hy];rw[List.set_set,e] at h1;rw[e];exact h1
    obtain⟨a,cs,rfl,hab,hc,hr⟩:=HS.out.at hy;obtain⟨rfl,-,-⟩:=hr;have HY0:Hid (∀v,Turn Z w v→v.cell? (a.add (j*2))=some (.int .i64 y.1)∧v.cell? ⟨(a.add (j*2)).block,(a.add (j*2)).off+1,none⟩=some (.int .i64 y.2)):=fun v hv=>by
     have k0:=(qAy (hv.block _ (by rw[qAz];exact hab.1) (by rw[qAz];exact hab.2))).trans (hc 0 _ rfl);have k1:=(qAy (hv.block _ (by rw[qAz];exact hab.1) (by rw[qAz];exact hab.2))).trans (hc 1 _ rfl);rw[show j*typL.k+0=j*2 from rfl] at k0;rw[show j*typL.k+1=j*2+1 from rfl,qAm a (j*2) 1 (by omega)] at k1;exact⟨k0,k1⟩
    have HSC:Hid (∀v,Below wr.heap.size wr v→v.cell? ⟨p,pc*2+1,none⟩=some (.slice (some ⟨bA,0,none⟩) ns cA)∧v.cell? ⟨bA,j*2,none⟩=some (.int .i64 x.1)∧v.cell? ⟨bA,j*2+1,none⟩=some (.int .i64 x.2)∧v.frozen? ⟨bA,j*2,none⟩=false∧v.frozen? ⟨bA,j*2+1,none⟩=false):=fun v hb=>by
     have hv:=HWj.out.below hb;obtain⟨A',c',e1,h1,h2,-⟩:=hv.cells hxl;rw[HR.out] at e1;simp only[Option.some.injEq,Prod.mk.injEq,true_and,Value.slice.injEq] at e1;obtain⟨rfl,-,rfl⟩:=e1;rw[hml] at h2;have ho:=qBk hown (hb.block bA (hown.lt bA rfl).2);exact⟨h2,(ho.cellAt (j*2) (by omega)).trans (qC2 hm),(ho.cellAt (j*2+1) (by omega)).trans (qC1 hm),ho.frozenAt _,ho.frozenAt _⟩
    have HJ:Hid (∃j1 j2,joinT x y=(j1,j2)∧joinK x.1 x.2 y.1 y.2=j1∧joinN x.1 x.2 y.1 y.2=j2):=⟨_,_,rfl,rfl,rfl⟩;obtain⟨j1,j2,hj12,hk1,hk2⟩:=HJ.out;have HJ12:=qAg hj12;have KJ:Hid (∀v,Calls Tryz.prog 95 #[.agg #[.int .i64 x.1,.int .i64 x.2],.agg #[.int .i64 y.1,.int .i64 y.2]] v fun e w'=>e= .returned (.agg #[.int .i64 j1,.int .i64 j2])∧Below v.heap.size v w'):=fun v=>by
     have:=kjoin x.1 x.2 y.1 y.2 v
     rwa [hk1,hk2] at this
    obtain⟨c0,c1⟩:=HY0.out wr HT.out;have hp2:(j:Int)<(ns:Int):=by omega
    have hp3:(0:Int)≤(j:Int):=by omega
    clear hx hy hm hml hxl hstk hown hx64 hab hc HJ hj12 hk1 hk2;obtain⟨x1,x2⟩:=x;obtain⟨y1,y2⟩:=y;simp only at c0 c1 KJ HSC HY0;have HLW:Hid ((l.set pc (true,mixJ s t (j+1))).length=n):=by show _=_;rw[List.length_set];exact HN.out
    go_upto_region 11 with(fail)
    refine qAs fun V hV=> ?_;have HBV:Hid (Below wr.heap.size wr V):=by show Below _ _ _;rw[hV];exact qAo wr _
    have hsV:wr.heap.size<V.heap.size:=by rw[hV];simp
    have HYV:Hid (Blk V wr.heap.size 41 #[.int .i64 y1,.int .i64 y2]):=by show Blk _ _ _ _;rw[hV];exact qA9 rfl
    clear hV;have HCV:Hid (∀v,Below V.heap.size V v→v.cell? ⟨p,pc*2+1,none⟩=some (.slice (some ⟨bA,0,none⟩) ns cA)∧v.cell? ⟨bA,j*2,none⟩=some (.int .i64 x1)∧v.cell? ⟨bA,j*2+1,none⟩=some (.int .i64 x2)∧v.cell? ⟨wr.heap.size,0,none⟩=some (.int .i64 y1)∧v.cell? ⟨wr.heap.size,1,none⟩=some (.int .i64 y2)):=fun v hb=>by
     obtain⟨a1,a2,a3,-,-⟩:=HSC.out v (HBV.out.trans (hb.mono HBV.out.size));have hf:=qAx HYV.out hb (by omega);exact⟨a1,a2,a3,hf.cell 0,hf.cell 1⟩
    have SW:=qAg (HCV.out V (qAk _ _))
    go_region_held3 (fun v=>v.cell? ⟨p,pc*2+1,none⟩=some (.slice (some ⟨bA,0,none⟩) ns cA)∧v.cell? ⟨bA,j*2,none⟩=some (.int .i64 x1)∧v.cell? ⟨bA,j*2+1,none⟩=some (.int .i64 x2)∧v.cell? ⟨wr.heap.size,0,none⟩=some (.int .i64 y1)∧v.cell? ⟨wr.heap.size,1,none⟩=some (.int .i64 y2))
     (first|exact SS4.out|(have hz:=HB4.out;clear hz;exact HCV.out _ (HB4.out.alloc HB4.out.size _))|(have hz:=HB4.out;clear hz;exact HCV.out _ ((HB4.out.setCell (p:=⟨V.heap.size,0,none⟩) (qAi _) _).setCell (p:=⟨V.heap.size,1,none⟩) (qAi _) _))|exact SW.out|exact HCV.out _ (qAk _ V).drew|exact HCV.out _ (qAo V _)|exact HCV.out _ (qAo V _).drew)
     (first
     |(go_at_call 95
       refine(KJ.out _).mono ?_;rintro e w4 ⟨rfl,hb4⟩;have HB4:Hid (Below V.heap.size V w4):=(by show Below _ _ _;first|exact trn ((qAk _ V).drew) hb4|exact trn ((qAo V _).drew) hb4|exact trn (qAo V _) hb4|exact trn (qAk _ V) hb4);have HR4:=qAg hb4;have hs4:=hb4.size
       try simp at hs4
       have SS4:=qAg (HCV.out _ HB4.out)
       try(have HK4:Hid (Blk w4 V.heap.size 41 #[.int .i64 0,.int .i64 0]):=(by show Blk _ _ _ _;exact qAx (v:=(V.alloc (.cells #[.int .i64 0,.int .i64 0] 41)).drew) (show Blk (V.alloc (.cells #[.int .i64 0,.int .i64 0] 41)) _ _ _ from qA9 rfl) HR4.out (by simp));have q0:=HK4.out.cell 0;have q1:=HK4.out.cell 1;have q2:=HK4.out.frozen 0;have q3:=HK4.out.frozen 1)
       clear hb4))
    all_goals
     go_upto_region 12 with(fail)
     refine qAs fun V2 hV2=> ?_;have HBV2:Hid (Below V.heap.size V V2):=by
      show Below _ _ _
      rw[hV2]
      first
      |exact HB4.out.alloc HB4.out.size _
      |exact(HB4.out.setCell (p:=⟨V.heap.size,0,none⟩) (qAi _) _).setCell (p:=⟨V.heap.size,1,none⟩) (qAi _) _
     first
     |(have HK5:Hid (Blk V2 w4.heap.size 41 #[.int .i64 j1,.int .i64 j2]):=by show Blk _ _ _ _;rw[hV2];exact qA9 rfl
       have d0:=HK5.out.cell 0;have d1:=HK5.out.cell 1)
     |(have HK5:Hid (Blk V2 V.heap.size 41 #[.int .i64 j1,.int .i64 j2]):=by show Blk _ _ _ _;rw[hV2];simpa using(HK4.out.set 0 (.int .i64 j1)).set 1 (.int .i64 j2)
       have d0:=HK5.out.cell 0;have d1:=HK5.out.cell 1)
     simp only[List.getElem?_toArray,List.getElem?_cons_zero,List.getElem?_cons_succ] at d0 d1;clear hV2;have HBR:Hid (Below wr.heap.size wr V2):=HBV.out.trans (HBV2.out.mono HBV.out.size);obtain⟨e0,e1,e2,f1,f2⟩:=HSC.out V2 HBR.out;have HW5:=qAg (HWj.out.below HBR.out)
     by_cases e1':j1=x1
     · subst e1'
       by_cases e2':j2=x2
       · subst e2'
         go_region
         go_wp2_with fail
         refine⟨⟨j+1,by omega,by simp,HT.out.then HBR.out.drew,wj,?_,?_⟩,by simp[intOf];omega⟩
         · rw[qEi HX'.out HY.out HJ12.out];exact HW5.out.below (qAk _ _).drew
         · rw[qEi HX'.out HY.out HJ12.out];exact HWs.out
       · have n2:(j2==x2)=false:=by simpa using e2'
         have HNE:Hid (joinT (j1,x2) (y1,y2)≠(j1,x2)):=by show _≠_;rw[HJ12.out];intro h;injection h with _ h;exact e2' h
         exact qH
     · have n1:(j1==x1)=false:=by simpa using e1'
       have HNE:Hid (joinT (x1,x2) (y1,y2)≠(x1,x2)):=by show _≠_;rw[HJ12.out];intro h;injection h with h _;exact e1' h
       exact qH
  · obtain rfl:j=ns:=by omega
    go_wp2_with fail
    go_ret;have hm:mixJ s t j=joinL s t:=by
     have:=qFo (u:=s) (t:=t) (by rw[HNS.out,HK.out])
     rwa [HK.out] at this
    refine⟨HT.out,.inr ⟨rfl,Z,r,_,wj,HWj.out,fun _ _=>rfl,.inr ⟨s,HX.out,by rw[HNS.out,HK.out],by rw[hm],?_⟩⟩⟩;rw[←hm];exact HWs.out
theorem qEg (n0 g p q:Nat) (Z:Nat→Option Nat) (w:World) (l:List Shape) (ws:List Bool) (r:List (Bool×Value)) (pc:Nat) (D:Option Addr) (k c:Nat) (t:List Typ) (h:Wk n0 g p q Z w l ws r) (hn0:n0≤w.heap.size) (hpc:pc<l.length) (hl:l.length≤1000000) (hk:t.length=k) (k8:k≤8) (hs:Sq typL (fun b=>b<w.heap.size∧Z b=none) w D t):
 Calls Tryz.prog 66 #[.pointer (some ⟨g,0,none⟩),.int .i64 (pc:Nat),.slice D k c] w (Reached n0 g p q Z w l ws pc t):=by
 obtain⟨⟨b,s⟩,hx⟩:∃x,l[pc]? =some x:=⟨_,List.getElem?_eq_getElem hpc⟩
 cases b
 · exact qHq n0 g p q Z w l ws r pc D k c t h hn0 hpc hl hk k8 hs s hx
 · exact qHp n0 g p q Z w l ws r pc D k c t h hn0 hpc hl hk k8 hs s hx
end Go.Proofs.YtelceoecekfamaaGreat
