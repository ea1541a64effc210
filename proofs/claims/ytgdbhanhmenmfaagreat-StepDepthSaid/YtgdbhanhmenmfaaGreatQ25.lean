/-
Gf
-/
import Derived.Test.YtgdbhanhmenmfaaGreatQ10
import Derived.Test.YtgdbhanhmenmfaaGreatQ24
import Derived.Deep.RegionHeld3
set_option linter.unusedSimpArgs false
set_option linter.unusedVariables false
set_option maxRecDepth 100000
set_option maxHeartbeats 4000000
namespace Go.Proofs.YtgdbhanhmenmfaaGreat
open Go.RowKit
theorem qg {P:Prop} (h:P:=by
 have HO:=qBK (qKD HF.out HST.out hab1);have E0:=qBK (EF0.out _ (HBB.out _ HBV.out) B bc ts HTL.out HSB.out);rw[hab1,HTN.out] at E0;generalize hgg:frameB m L s k=g at*;clear hab1 hgg
 go_wp2_with (first
  |(go_at_call 94
    (with_reducible refine E0.out.mono ?_)
    rintro e w5 ⟨rfl,hb5⟩;have HB5:=qBK (HBV.out.trans (hb5.mono HBV.out.size));clear hb5))
 go_ret;exact⟨by rw[HO.out];rfl,HBB.out _ HB5.out⟩):P:=h
theorem qFQ (v0 v1 v2 v3 v4:Value) (D F:Option Addr) (n c nf cf:Nat) (caps:Array Value) (w:World):
 Calls Tryz.prog 56 #[.agg #[v0,v1,v2,v3,v4],.slice D n c,.slice F nf cf,.func (.func 90) #[] caps] w fun e w'=>
  e= .returned (.func (.func 95) #[] #[.pointer (some ⟨w.heap.size+2,0,none⟩),.pointer (some ⟨w.heap.size+1,0,none⟩),.pointer (some ⟨w.heap.size,0,none⟩),.pointer (some ⟨w.heap.size+3,0,none⟩)])∧Below w.heap.size w w'∧w.heap.size+3<w'.heap.size∧C5 w.heap.size v0 v1 v2 v3 v4 w'∧w'.cell? ⟨w.heap.size+1,0,none⟩=some (.slice D n c)∧w'.cell? ⟨w.heap.size+2,0,none⟩=some (.slice F nf cf)∧w'.cell? ⟨w.heap.size+3,0,none⟩=some (.func (.func 90) #[] caps):=by
 go_enter Tryz.func56,Tryz.ntmps56
 go_wp2_with fail
 go_ret;exact⟨rfl,(((qBe w _).alloc (by simp) _).alloc zA _).alloc zA _,by simp,by simp[C5,go_sem],by simp[go_sem],by simp[go_sem],by simp[go_sem]⟩
theorem qFD (PF PL PM PH:Nat) (hp:Addr) (A0 A1 A2 A3 A4 D F:Option Addr) (n0 n1 n2 n3 n4 d0 d1 d2 d3 d4 n c nf cf:Nat) (m:Mod) (L:List (List Shape)) (s:Stt) (k:Nat) (w:World)
 (h:modL.R (·<w.heap.size) w [.slice A0 n0 d0,.slice A1 n1 d1,.slice A2 n2 d2,.slice A3 n3 d3,.slice A4 n4 d4] m) (hc:checkN m=0) (hL:RightM m L) (hl:L.length=n) (hS:Sq rowL (·<w.heap.size) w D L) (hn:n≤9223372036854775807)
 (hfl:s.fr.length=nf) (hfr:Sq frL (·<w.heap.size) w F s.fr) (hnf:nf≤1000) (hk:k<nf)
 (hM:C5 PM (.slice A0 n0 d0) (.slice A1 n1 d1) (.slice A2 n2 d2) (.slice A3 n3 d3) (.slice A4 n4 d4) w) (hPL:w.cell? ⟨PL,0,none⟩=some (.slice D n c)) (hPF:w.cell? ⟨PF,0,none⟩=some (.slice F nf cf)) (hPH:w.cell? ⟨PH,0,none⟩=some (.func (.func 90) #[] #[.pointer (some hp)])) (hs:HasAt hp s w):
 Calls Tryz.prog 95 #[.int .i64 (k:Int),.pointer (some ⟨PF,0,none⟩),.pointer (some ⟨PL,0,none⟩),.pointer (some ⟨PM,0,none⟩),.pointer (some ⟨PH,0,none⟩)] w (Tells (!frameB m L s k) w):=by
 obtain⟨f,hf⟩:∃f,s.fr[k]? =some f:=⟨s.fr[k]'(by omega),List.getElem?_eq_getElem _⟩;obtain⟨aF,csf,rfl,hab,hcf,hRf⟩:=hfr.at hf;obtain⟨P0,e0,P1,e1,rfl,l0,l0',l1,l1',sq0,sq1,i1,i2⟩:=qDS hRf;have f0:=hcf 0 _ rfl;have f1:=hcf 1 _ rfl;have f2:=hcf 2 _ rfl;have f3:=hcf 3 _ rfl;rw[show k*frL.k+0=k*4 from rfl] at f0;rw[show k*frL.k+1=k*4+1 from rfl,qBT aF (k*4) 1 (by omega)] at f1;rw[show k*frL.k+2=k*4+2 from rfl,qBT aF (k*4) 2 (by omega)] at f2;rw[show k*frL.k+3=k*4+3 from rfl,qBT aF (k*4) 3 (by omega)] at f3;have k0:(0:Int)≤(k:Int):=by omega
 have k1:(k:Int)<(nf:Int):=by omega
 have SAc:Hid (∀w1,Below w.heap.size w w1→Calls Tryz.prog 96 #[.slice D n c,.int .i64 f.fn,.int .i64 f.pc] w1 fun e w'=>w'=w1∧AtIs (atB L f.fn f.pc) w1.heap.size w1 e):=fun w1 hb=>qE5 D n c L f.fn f.pc w1 hl (qCE hS hb) hn i1 i2;unfold maxLen at l0' l1';have b0:f.locs.length≤9223372036854775807:=by omega
 have b1:f.stk.length≤9223372036854775807:=by omega
 have HBox:Hid (∀W,Below w.heap.size w W→W.heap.size=W.heap.size):=fun _ _=>rfl;have hw63:IntKind.i64.wrap ((nf:Int)-1)=(nf:Int)-1:=by rw[qBi];omega
 have hw64:IntKind.i64.wrap ((k:Int)+1)=((k+1:Nat):Int):=by rw[qBi];omega
 have HBX:Hid (∀W,W=w.alloc (.cells #[.int .i64 f.fn,.int .i64 f.pc,.slice P0 f.locs.length e0,.slice P1 f.stk.length e1] 80)→Below w.heap.size w W∧w.heap.size<W.heap.size∧C4 w.heap.size (.int .i64 f.fn) (.int .i64 f.pc) (.slice P0 f.locs.length e0) (.slice P1 f.stk.length e1) W):=fun W hW=>by
  subst hW;exact⟨qBe w _,by simp,by simp[C4,go_sem]⟩
 have HPL:=qBK hPL;have HPF:=qBK hPF;have HPH:=qBK hPH;have HM:=qBK hM;have HSt:=qBK hs;have HSq0:=qBK sq0;have HSq1:=qBK sq1
 cases hat:atB L f.fn f.pc with
 |none=>
  have HO:=qBK (qED hf (qGY (m:=m) hf hat));rw[hat] at SAc;clear h hc hL hl hS hfl hfr hM hPL hPH hs hcf hRf l0 l0' l1 l1' sq0 sq1 i1 i2 hf hat;generalize frameB m L s k=g at*
  go_enter Tryz.func95,Tryz.ntmps95
  go_upto_region 2 with(fail)
  refine qBV fun W hW=> ?_;obtain⟨hBW,hsW,hC4⟩:=HBX.out W (by rw[hW]);have HBW:=qBK hBW;have HC4:=qBK hC4;clear hW hBW f0 f1 f2 f3 hPF;refine jL ?_;intro HBB;have HCV:Hid (∀v,Below W.heap.size W v→C4 w.heap.size (.int .i64 f.fn) (.int .i64 f.pc) (.slice P0 f.locs.length e0) (.slice P1 f.stk.length e1) v):=fun v hb=>HC4.out.below hb hsW;have HPV:Hid (∀v,Below W.heap.size W v→v.cell? ⟨PL,0,none⟩=some (.slice D n c)∧v.cell? ⟨PF,0,none⟩=some (.slice (some aF) nf cf)∧v.cell? ⟨PH,0,none⟩=some (.func (.func 90) #[] #[.pointer (some hp)])):=fun v hb=>⟨qBt HPL.out (HBB.out v hb),qBt HPF.out (HBB.out v hb),qBt HPH.out (HBB.out v hb)⟩;obtain⟨y0,y1,y2,y3⟩:=hC4;obtain⟨z0,z1,z2⟩:=HPV.out W (qBO _ _)
  go_wp2_with (first
   |(go_at_call 96
     (with_reducible refine(SAc.out _ ?_).mono ?_)
     · exact HBW.out
     rintro e w1 ⟨rfl,rfl⟩))
  go_ret;exact⟨by rw[HO.out];rfl,HBW.out⟩
 |some u=>
  obtain⟨j,p,fn,l,i,hj,hpp,hfn,hlr,hlp,hi,hu8⟩:=qDU hL hat;have hmem:=qBQ hfn;obtain⟨hA4,hL8,-,-⟩:=qCl hc hmem;obtain⟨_,_,_,_,_,ex,q0,⟨A1',d1',ex1,-,-,s1⟩,q2,q3,q4⟩:=id h;simp only[List.cons.injEq,and_true] at ex;obtain⟨rfl,rfl,rfl,rfl,rfl⟩:=ex;simp only[List.cons.injEq,Value.slice.injEq,and_true] at ex1;obtain⟨rfl,h1,rfl⟩:=ex1;obtain⟨a,Q0,c0,Q1,c1,Q2,c2,rfl,hafb,g0,g1,g2,g3,g4,t0,t1,-⟩:=qOM s1 hfn;obtain⟨_,_,et,u1,u2,u3⟩:=t0;simp only[List.cons.injEq,Value.slice.injEq,and_true] at et;obtain⟨rfl,-,rfl⟩:=et;obtain⟨_,_,et,v1,v2,v3⟩:=t1;simp only[List.cons.injEq,Value.slice.injEq,and_true] at et;obtain⟨rfl,-,rfl⟩:=et;have hj0:(0:Int)≤(j:Int):=by omega
  have hj1:(j:Int)<(n1:Int):=by have:=(qBM.1 hfn).1;omega
  have HFC:Hid (w.cell? (a.add (j*5))=some (.slice Q0 fn.args.length c0)∧w.cell? ⟨(a.add (j*5)).block,(a.add (j*5)).off+1,none⟩=some (.int .i64 fn.ret.1)∧w.cell? ⟨(a.add (j*5)).block,(a.add (j*5)).off+2,none⟩=some (.int .i64 fn.ret.2)∧w.cell? ⟨(a.add (j*5)).block,(a.add (j*5)).off+3,none⟩=some (.slice Q1 fn.locs.length c1)∧w.cell? ⟨(a.add (j*5)).block,(a.add (j*5)).off+4,none⟩=some (.slice Q2 fn.code.length c2)):=⟨g0,g1,g2,g3,g4⟩;have HTA:Hid (∀w1 G,Below w.heap.size w w1→Blk w1 G 62 #[.slice Q0 fn.args.length c0,.slice Q1 fn.locs.length c1]→Calls Tryz.prog 98 #[.slice (some ⟨G,0,none⟩) 2 2] w1 fun e w'=>∃v,e= .returned v∧w'.ownsRow w1.heap.size 61 2 v (fn.args++fn.locs).length (T2 (fn.args++fn.locs))∧Below w1.heap.size w1 w'):=fun w1 G hb1 hblk=>by
   have r0:tysL.R (·<w1.heap.size) w1 [.slice Q0 fn.args.length c0] fn.args:=⟨Q0,c0,rfl,u1,u2,qCE u3 hb1⟩;have r1:tysL.R (·<w1.heap.size) w1 [.slice Q1 fn.locs.length c1] fn.locs:=⟨Q1,c1,rfl,v1,v2,qCE v3 hb1⟩;obtain⟨A9,c9,e9,-,-,hsq⟩:=qJV (L:=tysL) hblk hblk.lt rfl r0 r1;simp only[List.cons.injEq,Value.slice.injEq,and_true] at e9;obtain⟨rfl,-,-⟩:=e9;have:=qDc (some ⟨G,0,none⟩) 2 2 [fn.args,fn.locs] w1 rfl hsq (by simp only[List.flatten_cons,List.flatten_nil,List.append_nil,List.length_append];omega) (by omega);simpa using this
  have HA64:Hid (A64 (fn.args++fn.locs)):=u3.a64.app v3.a64;have hal:(fn.args++fn.locs).length≤9223372036854775807:=by rw[List.length_append];omega
  rw[hat] at SAc;rw[hj] at hat SAc HBX;have HFN:Hid (m.funcs[f.fn.toNat]? =some fn):=by show _=_;rw[hj];exact hfn
  have HF:=qBK hf;have EF0:Hid (∀w1,Below w.heap.size w w1→∀B bc (ts:List Typ),ts.length≤9223372036854775807→Sq typL (·<w1.heap.size) w1 B ts→Calls Tryz.prog 94 #[.slice P1 f.stk.length e1,.slice B ts.length bc,.func (.func 90) #[] #[.pointer (some hp)]] w1 (Tells (allB s f.stk ts) w1)):=fun w1 hb B bc ts h1 h2=>qHp (hs.low hb) P1 B _ _ e1 bc f.stk ts rfl rfl (qCE sq1 hb) h2 b1 h1;have EF1:Hid (∀w1,Below w.heap.size w w1→∀B bc (ts:List Typ),ts.length≤9223372036854775807→Sq typL (·<w1.heap.size) w1 B ts→Calls Tryz.prog 94 #[.slice P0 f.locs.length e0,.slice B ts.length bc,.func (.func 90) #[] #[.pointer (some hp)]] w1 (Tells (allB s f.locs ts) w1)):=fun w1 hb B bc ts h1 h2=>qHp (hs.low hb) P0 B _ _ e0 bc f.locs ts rfl rfl (qCE sq0 hb) h2 b0 h1;obtain⟨na,hna⟩:∃x,fn.args.length=x:=⟨_,rfl⟩;obtain⟨nl,hnl⟩:∃x,fn.locs.length=x:=⟨_,rfl⟩;obtain⟨nc,hnc⟩:∃x,fn.code.length=x:=⟨_,rfl⟩;obtain⟨xl,hxl⟩:∃x,f.locs.length=x:=⟨_,rfl⟩;obtain⟨xs,hxs⟩:∃x,f.stk.length=x:=⟨_,rfl⟩;obtain⟨atl,hatl⟩:∃x,(fn.args++fn.locs).length=x:=⟨_,rfl⟩;obtain⟨nu,hnu⟩:∃x,u.length=x:=⟨_,rfl⟩;have HXL:=qBK hxl;have HATL:=qBK hatl;have HAL:=qBK hal;have HNU:=qBK hnu;have HU8:=qBK hu8;rw[hna,hnl,hnc] at HFC;rw[hna,hnl] at HTA;rw[hxs] at EF0;have HTB:Hid (∀w1 G,Below w.heap.size w w1→Blk w1 G 62 #[.slice Q0 na c0,.slice Q1 nl c1]→Calls Tryz.prog 98 #[.slice (some ⟨G,0,none⟩) 2 2] w1 fun e w'=>∃A c,e= .returned (.slice A atl c)∧Sq typL (·<w'.heap.size) w' A (fn.args++fn.locs)∧Below w1.heap.size w1 w'):=fun w1 G hb1 hblk=>(HTA.out w1 G hb1 hblk).mono fun e w' q=>by
   obtain⟨v,rfl,ho,hb⟩:=q;obtain⟨A7,c7,rfl,-,-,-,hsq7⟩:=qFk ho HA64.out;exact⟨A7,c7,by rw[hatl],hsq7.wide fun b hb=>hb.2,hb⟩
  rw[hxl,hxs] at HBX;obtain⟨rt1,hrt1⟩:∃x,fn.ret.1=x:=⟨_,rfl⟩;obtain⟨rt2,hrt2⟩:∃x,fn.ret.2=x:=⟨_,rfl⟩;rw[hrt1,hrt2] at HFC;rw[hxl] at f2;rw[hxs] at f3;rw[hj] at f0
  by_cases hlast:k+1=nf
  · have HST:=qBK (qE4 (m:=m) (L:=L) hf (by omega))
    rw[hj,hat] at HST;have kk1:decide ((k:Int)<(nf:Int)-1)=false:=by simp;omega
    clear h hc hL hl hS hfl hfr hf hat hlast;clear h1 q0 q2 q3 q4 s1 hafb g0 g1 g2 g3 g4 u1 u2 u3 v1 v2 v3 hmem hA4 hL8 hal hu8 hfn hlr hlp hi hpp hna hnl hnc hxl hxs hatl hnu hrt1 hrt2 hj hRf hcf l0 l0' l1 l1' sq0 sq1 i1 i2 b0 b1 hs hPL hPH hM
    go_enter Tryz.func95,Tryz.ntmps95
    go_upto_region 2 with(fail)
    refine qBV fun W hW=> ?_;obtain⟨hBW,hsW,hC4⟩:=HBX.out W (by rw[hW]);have HBW:=qBK hBW;have HC4:=qBK hC4;clear hW hBW f0 f1 f2 f3 hPF;refine jJ ?_;intro HBB HCV HPV;obtain⟨y0,y1,y2,y3⟩:=hC4;refine jC ?_;intro z0 z1 z2 HMV HFV
    go_upto_region 3 with(first
     |(go_at_call 96
       (with_reducible refine(SAc.out _ ?_).mono ?_)
       · exact HBW.out
       rintro e w1 ⟨hw1,B,bc,rfl,b3,b4,b5⟩;have hw2:=hw1.symm;clear hw1;subst hw2))
    have HSB:=qBK b5;have HTL:Hid (u.length≤9223372036854775807):=by show _≤_;have:=HU8.out;omega
    have HTN:=HNU;have HBV:Hid (Below W.heap.size W W):=qBO _ _;clear b3 b4 b5;rw[HNU.out];obtain⟨ts,ets⟩:∃ts,ts=u:=⟨_,rfl⟩;rw[←ets] at HST HSB HTL HTN;clear ets
    cases hab1:allB s f.stk ts
    · exact qg
    have HO:=qBK (qDa HF.out HST.out HFN.out);rw[hab1,Bool.true_and] at HO;have E0:=qBK (EF0.out _ (HBB.out _ HBV.out) B bc ts HTL.out HSB.out);rw[hab1,HTN.out] at E0;generalize hgg:frameB m L s k=g at*;clear hab1 hgg
    go_upto_region 7 with(first
     |(go_at_call 94
       (with_reducible refine E0.out.mono ?_)
       rintro e w5 ⟨rfl,hb5⟩;have HB5:=qBK (HBV.out.trans (hb5.mono HBV.out.size));clear hb5))
    obtain⟨m0,m1,m2,m3,m4⟩:=HMV.out _ HB5.out;obtain⟨x0,x1,x2,x3⟩:=HCV.out _ HB5.out;obtain⟨r0,r1,r2,r3,r4⟩:=HFV.out _ HB5.out
    go_upto_region 8 with(fail)
    refine qBV fun U hU=> ?_;refine qAP ?_;intro HBU G5 hG5 HFB;rw[hG5];have hgU:G5<U.heap.size:=HFB.out.lt;clear hU m0 m1 m2 m3 m4 x0 x1 x2 x3 r0 r1 r2 r3 r4 hG5;have HS8:Hid (∀v,Below U.heap.size U v→v.cell? ⟨w.heap.size,2,none⟩=some (.slice P0 xl e0)∧v.cell? ⟨G5,0,none⟩=some (.slice Q0 na c0)∧v.cell? ⟨G5,3,none⟩=some (.slice Q1 nl c1)∧v.cell? ⟨PH,0,none⟩=some (.func (.func 90) #[] #[.pointer (some hp)])):=fun v hb=>by
     have hb2:=HBU.out.trans (hb.mono HBU.out.size);have hf:=qBf HFB.out hb hgU;exact⟨(HCV.out v hb2).2.2.1,hf.cell 0,hf.cell 3,(HPV.out v hb2).2.2⟩
    have HBUU:Hid (∀v,Below U.heap.size U v→Below w.heap.size w v):=fun v hb=>HBB.out _ (HBU.out.trans (hb.mono HBU.out.size))
    cases hab2:allB s f.locs (fn.args++fn.locs)
    all_goals
     rw[hab2] at HO;have E1:Hid (∀w1,Below w.heap.size w w1→∀B bc,Sq typL (·<w1.heap.size) w1 B (fn.args++fn.locs)→Calls Tryz.prog 94 #[.slice P0 xl e0,.slice B atl bc,.func (.func 90) #[] #[.pointer (some hp)]] w1 (Tells (allB s f.locs (fn.args++fn.locs)) w1)):=fun w1 hb B bc h=>by
      have:=EF1.out w1 hb B bc _ HAL.out h
      rwa [HXL.out,HATL.out] at this
     rw[hab2] at E1;clear hab2
     go_region_held3 (fun v=>v.cell? ⟨w.heap.size,2,none⟩=some (.slice P0 xl e0)∧v.cell? ⟨G5,0,none⟩=some (.slice Q0 na c0)∧v.cell? ⟨G5,3,none⟩=some (.slice Q1 nl c1)∧v.cell? ⟨PH,0,none⟩=some (.func (.func 90) #[] #[.pointer (some hp)]))
      (first|exact HS8.out _ (qBO _ U).drew|exact HS8.out _ ((qBO _ U).drew.alloc (qBL _) _)|(have hz:=HB7.out;clear hz;first|exact HS8.out _ HB8.out|exact HS8.out _ HB7.out))
      (first
      |(go_at_call 98
        refine(HTB.out _ _ (HBUU.out _ ((qBO _ U).drew.alloc (qBL _) _)) (qCT _ _ _)).mono ?_;rintro e w7 ⟨A7,c7,rfl,hsq7,hb7⟩;refine qBF ?_;intro HB7 E2;clear hb7 hsq7)
      |(go_at_call 94
        (with_reducible refine E2.out.mono ?_)
        rintro e w8 ⟨rfl,hb8⟩;have HB8:Hid (Below U.heap.size U w8):=HB7.out.trans (hb8.mono HB7.out.size);clear hb8))
     go_wp2_with fail
     go_ret;exact⟨by rw[HO.out];rfl,HBUU.out _ HB8.out⟩
  obtain⟨kn,hkn⟩:∃kn,k+1=kn:=⟨_,rfl⟩;have hw65:IntKind.i64.wrap ((k:Int)+1)=(kn:Int):=by rw[←hkn];exact hw64
  obtain⟨q,hq⟩:∃q,s.fr[k+1]? =some q:=⟨s.fr[k+1]'(by omega),List.getElem?_eq_getElem _⟩;obtain⟨aG,csg,eG,hgb,hcg,hRg⟩:=hfr.at hq;injection eG with eG;subst eG;obtain⟨R0,r0,R1,r1,rfl,-,-,-,-,-,-,j1,-⟩:=qDS hRg;have gq:=hcg 0 _ rfl;rw[show(k+1)*frL.k+0=(k+1)*4 from rfl,hkn] at gq;have HGQ:=qBK gq;have kn0:(0:Int)≤(kn:Int):=by omega
  have kn1:(kn:Int)<(nf:Int):=by omega
  have kk1:decide ((k:Int)<(nf:Int)-1)=true:=by simp;omega
  have hpc0:0≤f.pc:=by omega
  have SBc:Hid (∀w1,Below w.heap.size w w1→Calls Tryz.prog 97 #[.agg #[.slice A0 n0 d0,.slice (some a) n1 d1,.slice A2 n2 d2,.slice A3 n3 d3,.slice A4 n4 d4],.slice D n c,.agg #[.int .i64 (j:Int),.int .i64 f.pc,.slice P0 xl e0,.slice P1 xs e1],.int .i64 q.fn] w1 fun e w'=>Below w1.heap.size w1 w'∧AtIs (belowB m L (j:Int) f.pc q.fn) w'.heap.size w' e):=fun w1 hb=>by
   have:=qFa A0 (some a) A2 A3 A4 D P0 P1 n0 n1 n2 n3 n4 d0 d1 d2 d3 d4 n c e0 e1 m L f q.fn w1 (qCA h hb) hc hL hl (qCE hS hb) hn i1 i2 hpc0 j1
   rwa [hj,hxl,hxs] at this
  obtain⟨gf,hgf⟩:∃x,q.fn=x:=⟨_,rfl⟩;rw[hgf] at SBc HGQ;have hwait:=qE3 (m:=m) (L:=L) hf hq (by rw[hj];exact hat);rw[hj,hgf] at hwait;clear h hc hL hl hS hfl hfr hf hat hlast hw64;clear h1 q0 q2 q3 q4 s1 hafb g0 g1 g2 g3 g4 u1 u2 u3 v1 v2 v3 hmem hA4 hL8 hal hu8 hfn hlr hlp hi hpp hna hnl hnc hxl hxs hatl hnu hrt1 hrt2 hj hRf hcf l0 l0' l1 l1' sq0 sq1 i1 i2 b0 b1 hs hPL hPH hM;clear hgb hcg hRg j1 gq hgf hq hkn hpc0
  cases hbel:belowB m L (j:Int) f.pc gf with
  |none=>
   rw[hbel] at hwait SBc;have HO:=qBK (qED HF.out hwait);clear hbel hwait;generalize hgg:frameB m L s k=g at*;clear hgg
   go_enter Tryz.func95,Tryz.ntmps95
   go_upto_region 2 with(fail)
   refine qBV fun W hW=> ?_;obtain⟨hBW,hsW,hC4⟩:=HBX.out W (by rw[hW]);have HBW:=qBK hBW;have HC4:=qBK hC4;clear hW hBW f0 f1 f2 f3 hPF;refine jJ ?_;intro HBB HCV HPV;obtain⟨y0,y1,y2,y3⟩:=hC4;refine jC ?_;intro z0 z1 z2 HMV HFV
   go_upto_region 3 with(first
    |(go_at_call 96
      (with_reducible refine(SAc.out _ ?_).mono ?_)
      · exact HBW.out
      rintro e w1 ⟨hw1,B,bc,rfl,b3,b4,b5⟩;have hw2:=hw1.symm;clear hw1;subst hw2))
   clear b3 b4 b5;rw[HNU.out]
   go_upto_region 4 with(fail)
   refine jO ?_;intro HSS;clear z0 z1 z2 y0 y1 y2 y3
   go_region_held3 (fun v=>v.cell? ⟨PM,0,none⟩=some (.slice A0 n0 d0)∧v.cell? ⟨PM,1,none⟩=some (.slice (some a) n1 d1)∧v.cell? ⟨PM,2,none⟩=some (.slice A2 n2 d2)∧v.cell? ⟨PM,3,none⟩=some (.slice A3 n3 d3)∧v.cell? ⟨PM,4,none⟩=some (.slice A4 n4 d4)∧v.cell? ⟨PL,0,none⟩=some (.slice D n c)∧v.cell? ⟨PF,0,none⟩=some (.slice (some aF) nf cf)∧v.cell? ⟨w.heap.size,0,none⟩=some (.int .i64 (j:Int))∧v.cell? ⟨w.heap.size,1,none⟩=some (.int .i64 f.pc)∧v.cell? ⟨w.heap.size,2,none⟩=some (.slice P0 xl e0)∧v.cell? ⟨w.heap.size,3,none⟩=some (.slice P1 xs e1)∧v.cell? (aF.add (kn*4))=some (.int .i64 gf))
    (first|exact HSS.out _ (qBO _ W).drew|(have hz:=HBV.out;clear hz;exact HSS.out _ HBV.out))
    (first
    |(go_at_call 97
      (with_reducible refine(SBc.out _ ?_).mono ?_)
      · exact HBB.out _ (qBO _ W).drew
      rintro e w4 ⟨hb4,rfl⟩;have HBV:Hid (Below W.heap.size W w4):=(qBO _ W).drew.trans (hb4.mono (qBL _));clear hb4))
   go_wp2_with fail
   go_ret;exact⟨by rw[HO.out];rfl,HBB.out _ HBV.out⟩
  |some ts=>
   rw[hbel] at hwait SBc;have HST:=qBK hwait;clear hbel hwait;obtain⟨nt,hnt⟩:∃x,ts.length=x:=⟨_,rfl⟩;have HTN:=qBK hnt;clear hnt
   go_enter Tryz.func95,Tryz.ntmps95
   go_upto_region 2 with(fail)
   refine qBV fun W hW=> ?_;obtain⟨hBW,hsW,hC4⟩:=HBX.out W (by rw[hW]);have HBW:=qBK hBW;have HC4:=qBK hC4;clear hW hBW f0 f1 f2 f3 hPF;refine jJ ?_;intro HBB HCV HPV;obtain⟨y0,y1,y2,y3⟩:=hC4;refine jC ?_;intro z0 z1 z2 HMV HFV
   go_upto_region 3 with(first
    |(go_at_call 96
      (with_reducible refine(SAc.out _ ?_).mono ?_)
      · exact HBW.out
      rintro e w1 ⟨hw1,B9,bc9,rfl,b3,b4,b5⟩;have hw2:=hw1.symm;clear hw1;subst hw2))
   clear b3 b4 b5;rw[HNU.out]
   go_upto_region 4 with(fail)
   refine jO ?_;intro HSS;clear z0 z1 z2 y0 y1 y2 y3
   go_region_held3 (fun v=>v.cell? ⟨PM,0,none⟩=some (.slice A0 n0 d0)∧v.cell? ⟨PM,1,none⟩=some (.slice (some a) n1 d1)∧v.cell? ⟨PM,2,none⟩=some (.slice A2 n2 d2)∧v.cell? ⟨PM,3,none⟩=some (.slice A3 n3 d3)∧v.cell? ⟨PM,4,none⟩=some (.slice A4 n4 d4)∧v.cell? ⟨PL,0,none⟩=some (.slice D n c)∧v.cell? ⟨PF,0,none⟩=some (.slice (some aF) nf cf)∧v.cell? ⟨w.heap.size,0,none⟩=some (.int .i64 (j:Int))∧v.cell? ⟨w.heap.size,1,none⟩=some (.int .i64 f.pc)∧v.cell? ⟨w.heap.size,2,none⟩=some (.slice P0 xl e0)∧v.cell? ⟨w.heap.size,3,none⟩=some (.slice P1 xs e1)∧v.cell? (aF.add (kn*4))=some (.int .i64 gf))
    (first|exact HSS.out _ (qBO _ W).drew|(have hz:=HBV.out;clear hz;exact HSS.out _ HBV.out))
    (first
    |(go_at_call 97
      (with_reducible refine(SBc.out _ ?_).mono ?_)
      · exact HBB.out _ (qBO _ W).drew
      rintro e w4 ⟨hb4,B,bc,rfl,b3,b4,b5⟩;have HBV:Hid (Below W.heap.size W w4):=(qBO _ W).drew.trans (hb4.mono (qBL _));have HSB:=qBK b5;have HTL:Hid (ts.length≤9223372036854775807):=(by show _≤_;unfold maxLen at b4;omega);clear hb4 b3 b4 b5))
   rw[HTN.out];obtain⟨z0,z1,z2⟩:=HPV.out _ HBV.out;obtain⟨y0,y1,y2,y3⟩:=HCV.out _ HBV.out
   cases hab1:allB s f.stk ts
   · exact qg
   have HO:=qBK (qDa HF.out HST.out HFN.out);rw[hab1,Bool.true_and] at HO;have E0:=qBK (EF0.out _ (HBB.out _ HBV.out) B bc ts HTL.out HSB.out);rw[hab1,HTN.out] at E0;generalize hgg:frameB m L s k=g at*;clear hab1 hgg
   go_upto_region 7 with(first
    |(go_at_call 94
      (with_reducible refine E0.out.mono ?_)
      rintro e w5 ⟨rfl,hb5⟩;have HB5:=qBK (HBV.out.trans (hb5.mono HBV.out.size));clear hb5))
   obtain⟨m0,m1,m2,m3,m4⟩:=HMV.out _ HB5.out;obtain⟨x0,x1,x2,x3⟩:=HCV.out _ HB5.out;obtain⟨r0,r1,r2,r3,r4⟩:=HFV.out _ HB5.out
   go_upto_region 8 with(fail)
   refine qBV fun U hU=> ?_;refine qAP ?_;intro HBU G5 hG5 HFB;rw[hG5];have hgU:G5<U.heap.size:=HFB.out.lt;clear hU m0 m1 m2 m3 m4 x0 x1 x2 x3 r0 r1 r2 r3 r4 hG5;have HS8:Hid (∀v,Below U.heap.size U v→v.cell? ⟨w.heap.size,2,none⟩=some (.slice P0 xl e0)∧v.cell? ⟨G5,0,none⟩=some (.slice Q0 na c0)∧v.cell? ⟨G5,3,none⟩=some (.slice Q1 nl c1)∧v.cell? ⟨PH,0,none⟩=some (.func (.func 90) #[] #[.pointer (some hp)])):=fun v hb=>by
    have hb2:=HBU.out.trans (hb.mono HBU.out.size);have hf:=qBf HFB.out hb hgU;exact⟨(HCV.out v hb2).2.2.1,hf.cell 0,hf.cell 3,(HPV.out v hb2).2.2⟩
   have HBUU:Hid (∀v,Below U.heap.size U v→Below w.heap.size w v):=fun v hb=>HBB.out _ (HBU.out.trans (hb.mono HBU.out.size))
   cases hab2:allB s f.locs (fn.args++fn.locs)
   all_goals
    rw[hab2] at HO;have E1:Hid (∀w1,Below w.heap.size w w1→∀B bc,Sq typL (·<w1.heap.size) w1 B (fn.args++fn.locs)→Calls Tryz.prog 94 #[.slice P0 xl e0,.slice B atl bc,.func (.func 90) #[] #[.pointer (some hp)]] w1 (Tells (allB s f.locs (fn.args++fn.locs)) w1)):=fun w1 hb B bc h=>by
     have:=EF1.out w1 hb B bc _ HAL.out h
     rwa [HXL.out,HATL.out] at this
    rw[hab2] at E1;clear hab2
    go_region_held3 (fun v=>v.cell? ⟨w.heap.size,2,none⟩=some (.slice P0 xl e0)∧v.cell? ⟨G5,0,none⟩=some (.slice Q0 na c0)∧v.cell? ⟨G5,3,none⟩=some (.slice Q1 nl c1)∧v.cell? ⟨PH,0,none⟩=some (.func (.func 90) #[] #[.pointer (some hp)]))
     (first|exact HS8.out _ (qBO _ U).drew|exact HS8.out _ ((qBO _ U).drew.alloc (qBL _) _)|(have hz:=HB7.out;clear hz;first|exact HS8.out _ HB8.out|exact HS8.out _ HB7.out))
     (first
     |(go_at_call 98
       refine(HTB.out _ _ (HBUU.out _ ((qBO _ U).drew.alloc (qBL _) _)) (qCT _ _ _)).mono ?_;rintro e w7 ⟨A7,c7,rfl,hsq7,hb7⟩;refine qBF ?_;intro HB7 E2;clear hb7 hsq7)
     |(go_at_call 94
       (with_reducible refine E2.out.mono ?_)
       rintro e w8 ⟨rfl,hb8⟩;have HB8:Hid (Below U.heap.size U w8):=HB7.out.trans (hb8.mono HB7.out.size);clear hb8))
    go_wp2_with fail
    go_ret;exact⟨by rw[HO.out];rfl,HBUU.out _ HB8.out⟩
end Go.Proofs.YtgdbhanhmenmfaaGreat
