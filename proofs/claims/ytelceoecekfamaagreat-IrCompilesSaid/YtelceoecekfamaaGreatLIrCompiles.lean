/-
  The law IrCompiles holds: the instructions over registers of any module, or why there are none; the law's function returns true and turns nothing that was there.
  Conditions: none.
-/
import Derived.Test.YtelceoecekfamaaGreatQ01
import Derived.Test.YtelceoecekfamaaGreatQ02
import Derived.Test.YtelceoecekfamaaGreatQ06
import Derived.Test.YtelceoecekfamaaGreatQ11
import Derived.Test.YtelceoecekfamaaGreatQ30
import Derived.BigQuiet
import Derived.BigRegion
import Derived.Deep.RegionHeld3
namespace Go.Proofs.YtelceoecekfamaaGreat.irCompiles
open Go.ChangeShapes Go.WideShapes Go.ChangeAt Go.RowKit
set_option linter.unusedVariables false
set_option linter.unusedSimpArgs false
set_option maxRecDepth 100000 in
set_option maxHeartbeats 8000000 in
theorem walk (cs:List Value) (m:Mod) (w:World) (h:modL.R (·<w.heap.size) w cs m) (hz:Zm m):
 Calls Tryz.prog 3 #[vAgg cs] w fun e w'=>e= .returned (.bool true)∧Below w.heap.size w w':=by
 have AN:=qAg (fun w=>qIT w)
 have L0:Hid (∀w1,Below w.heap.size w w1→Calls Tryz.prog 4 #[vAgg cs] w1 fun e w'=>∃b:Bool,e= .returned (.bool b)∧Below w1.heap.size w1 w'∧(b=true→Small m)):=fun w1 hb=>qH3 cs m w1 (qBS h hb) hz
 have CK:Hid (∀w1,Below w.heap.size w w1→Calls Tryz.prog 6 #[vAgg cs] w1 (Comp m w1)):=fun w1 hb=>qDU cs m w1 (qBS h hb)
 have MA:Hid (checkN m=0→∀w1,Below w.heap.size w w1→Calls Tryz.prog 9 #[vAgg cs] w1 (RMaps m w1)):=fun hc w1 hb=>qHk qEe cs m w1 (qBS h hb) hc
 have RC:Hid (Small m→∀w1,Below w.heap.size w w1→Calls Tryz.prog 7 #[vAgg cs] w1 fun e w'=>e= .returned (.int .i64 (checkN m))∧Below w1.heap.size w1 w'):=fun hs w1 hb=>qDx cs m w1 (qBS h hb) hs
 have RN:Hid (Small m→∀w1,Below w.heap.size w w1→Calls Tryz.prog 8 #[vAgg cs] w1 (Tells (mainB m) w1)):=fun hs w1 hb=>qHl cs m w1 (qBS h hb) hs
 have FX:Hid (checkN m=0→∀(j:Nat) fn,m.funcs[j]? =some fn→∃A0 a A2 A3 A4 n0 n2 n3 n4 d0 d1 d2 d3 d4 P0 P1 b c0 c1 c2,cs=[.slice A0 n0 d0,.slice (some a) m.funcs.length d1,.slice A2 n2 d2,.slice A3 n3 d3,.slice A4 n4 d4]∧a.block<w.heap.size∧b.block<w.heap.size∧
  ∀v,Below w.heap.size w v→(v.cell? (a.add (j*5))=some (.slice P0 fn.args.length c0)∧v.cell? ⟨(a.add (j*5)).block,(a.add (j*5)).off+1,none⟩=some (.int .i64 fn.ret.1)∧v.cell? ⟨(a.add (j*5)).block,(a.add (j*5)).off+2,none⟩=some (.int .i64 fn.ret.2)∧v.cell? ⟨(a.add (j*5)).block,(a.add (j*5)).off+3,none⟩=some (.slice P1 fn.locs.length c1)∧v.cell? ⟨(a.add (j*5)).block,(a.add (j*5)).off+4,none⟩=some (.slice (some b) fn.code.length c2))∧
   (∀(p:Nat) (i:Ins),fn.code[p]? =some i→v.cell? (b.add (p*3))=some (.int .i64 i.1)∧v.cell? ⟨(b.add (p*3)).block,(b.add (p*3)).off+1,none⟩=some (.int .i64 i.2.1)∧v.cell? ⟨(b.add (p*3)).block,(b.add (p*3)).off+2,none⟩=some (.int .i64 i.2.2))∧
   ∀(p:Nat) (i:Ins) (D:Option Addr) (k g:Nat) (ts:List Typ),fn.code[p]? =some i→ts.length=k→Sq typL (·<v.heap.size) v D ts→k≤1000→k≤g→g≤9223372036854775807→Calls Tryz.prog 10 #[.agg #[.slice A0 n0 d0,.slice (some a) m.funcs.length d1,.slice A2 n2 d2,.slice A3 n3 d3,.slice A4 n4 d4],.agg #[.slice P0 fn.args.length c0,.int .i64 fn.ret.1,.int .i64 fn.ret.2,.slice P1 fn.locs.length c1,.slice (some b) fn.code.length c2],.agg #[.int .i64 i.1,.int .i64 i.2.1,.int .i64 i.2.2],.slice D k g] v (Ruled (ruleB m fn i ts) v)):=fun hc j fn hf=>fn_cx h hc hf
 have HLn:Hid (∀A0 A1 A2 A3 A4 n0 n1 n2 n3 n4 c0 c1 c2 c3 c4,cs=[.slice A0 n0 c0,.slice A1 n1 c1,.slice A2 n2 c2,.slice A3 n3 c3,.slice A4 n4 c4]→m.funcs.length=n1):=fun A0 A1 A2 A3 A4 n0 n1 n2 n3 n4 c0 c1 c2 c3 c4 e=>by
  obtain⟨_,_,_,_,_,rfl,-,⟨B,d,e1,-⟩,-⟩:=h
  simp only[List.cons.injEq,and_true] at e e1
  have:=e1.symm.trans e.2.1
  injection this
 obtain⟨A0,A1,A2,A3,A4,n0,n1,n2,n3,n4,c0,c1,c2,c3,c4,hcs⟩:=qCa h
 have hn1:=HLn.out _ _ _ _ _ _ _ _ _ _ _ _ _ _ _ hcs
 have HN1:=qAg hn1
 subst hcs
 clear h hz HLn hn1
 simp only[vAgg] at L0 CK MA RC RN⊢
 go_enter Tryz.func3,Tryz.ntmps3
 go_wp2_with fail
 refine qBg fun W hW=> ?_
 have HB0:Hid (Below w.heap.size w W):=by show Below _ _ _;rw[hW];exact qAo w _
 have HC0:Hid (C5 w.heap.size (.slice A0 n0 c0) (.slice A1 n1 c1) (.slice A2 n2 c2) (.slice A3 n3 c3) (.slice A4 n4 c4) W):=by show C5 _ _ _ _ _ _ _;rw[hW];simp[C5,go_sem]
 have hzW:w.heap.size<W.heap.size:=by rw[hW];simp
 clear hW
 have HCV:Hid (∀v,Below W.heap.size W v→C5 w.heap.size (.slice A0 n0 c0) (.slice A1 n1 c1) (.slice A2 n2 c2) (.slice A3 n3 c3) (.slice A4 n4 c4) v):=fun v hb=>HC0.out.below hb hzW
 have HBB:Hid (∀v,Below W.heap.size W v→Below w.heap.size w v):=fun v hb=>HB0.out.trans (hb.mono HB0.out.size)
 refine(L0.out W HB0.out).mono ?_
 rintro e V ⟨b,rfl,hb1,hsm⟩
 have HB1:=qAg hb1
 obtain⟨x0,x1,x2,x3,x4⟩:=HCV.out V hb1
 clear hb1
 cases b
 · go_wp2_with (first|(go_at_call 5;refine(AN.out _).mono ?_;rintro e w2 ⟨rfl,hb2⟩;have HB2:=qAg (HB1.out.trans (hb2.mono HB1.out.size));clear hb2))
   go_ret
   exact⟨rfl,HBB.out _ HB2.out⟩
 have HSm:=qAg (hsm rfl)
 clear hsm
 have RC1:Hid (∀v,Below W.heap.size W v→Calls Tryz.prog 7 #[.agg #[.slice A0 n0 c0,.slice A1 n1 c1,.slice A2 n2 c2,.slice A3 n3 c3,.slice A4 n4 c4]] v fun e w'=>e= .returned (.int .i64 (checkN m))∧Below v.heap.size v w'):=fun v hv=>RC.out HSm.out v (HBB.out v hv)
 have RN1:Hid (∀v,Below W.heap.size W v→Calls Tryz.prog 8 #[.agg #[.slice A0 n0 c0,.slice A1 n1 c1,.slice A2 n2 c2,.slice A3 n3 c3,.slice A4 n4 c4]] v (Tells (mainB m) v)):=fun v hv=>RN.out HSm.out v (HBB.out v hv)
 clear RC RN
 go_wp2_with fail
 refine(CK.out V (HBB.out _ HB1.out)).mono ?_
 intro e w2 hch
 obtain⟨hb2,⟨er,rfl,hne,hcs⟩|⟨hc,hm,L,q,g,hL,rfl,hq,hR,hG⟩⟩:=qIH hch
 · refine jX ?_;intro HB2
   have hne':(er==0)=false:=by simpa using hne
   have hne2:(er != 0)=true:=by simpa using hne
   have HNe:=qAg hne
   clear hch hb2 hne x0 x1 x2 x3 x4
   obtain⟨x0,x1,x2,x3,x4⟩:=HCV.out w2 HB2.out
   rcases hcs with⟨h1,h2⟩|⟨h1,h2,h3⟩|⟨h1,h2,h3,h4⟩
   · rw[←h2] at RC1
     clear h1 h2 hne2
     have hne2:(er != 0)=true:=by simpa using HNe.out
     go_wp2_with (first
      |(go_at_call 7;refine(RC1.out w2 HB2.out).mono ?_;rintro e w3 ⟨rfl,hb3⟩;have HB3:=qAg (HB2.out.trans (hb3.mono HB2.out.size));clear hb3 x0 x1 x2 x3 x4)
      |(go_at_call 5;refine(AN.out _).mono ?_;rintro e w4 ⟨rfl,hb4⟩;have HB4:=qAg (HB3.out.trans (hb4.mono HB3.out.size));clear hb4))
     go_ret
     exact⟨rfl,HBB.out _ HB4.out⟩
   · rw[h1] at RC1
     rw[h2] at RN1
     subst h3
     clear h1 h2
     go_wp2_with (first
      |(go_at_call 7;refine(RC1.out w2 HB2.out).mono ?_;rintro e w3 ⟨rfl,hb3⟩;have HB3:=qAg (HB2.out.trans (hb3.mono HB2.out.size));obtain⟨y0,y1,y2,y3,y4⟩:=HCV.out w3 HB3.out;clear hb3 x0 x1 x2 x3 x4)
      |(go_at_call 8;refine(RN1.out w3 HB3.out).mono ?_;rintro e w4 ⟨rfl,hb4⟩;have HB4:=qAg (HB3.out.trans (hb4.mono HB3.out.size));clear hb4 y0 y1 y2 y3 y4)
      |(go_at_call 5;refine(AN.out _).mono ?_;rintro e w5 ⟨rfl,hb5⟩;have HB5:=qAg (HB4.out.trans (hb5.mono HB4.out.size));clear hb5))
     go_ret
     exact⟨rfl,HBB.out _ HB5.out⟩
   · rw[h1] at RC1
     rw[h2] at RN1
     subst h4
     have MA1:Hid (∀v,Below W.heap.size W v→Calls Tryz.prog 9 #[.agg #[.slice A0 n0 c0,.slice A1 n1 c1,.slice A2 n2 c2,.slice A3 n3 c3,.slice A4 n4 c4]] v (RMaps m v)):=fun v hv=>MA.out h1 v (HBB.out v hv)
     have HNv:=qAg h3
     clear h1 h2 h3
     go_wp2_with (first
      |(go_at_call 7;refine(RC1.out w2 HB2.out).mono ?_;rintro e w3 ⟨rfl,hb3⟩;have HB3:=qAg (HB2.out.trans (hb3.mono HB2.out.size));obtain⟨y0,y1,y2,y3,y4⟩:=HCV.out w3 HB3.out;clear hb3 x0 x1 x2 x3 x4)
      |(go_at_call 8;refine(RN1.out w3 HB3.out).mono ?_;rintro e w4 ⟨rfl,hb4⟩;have HB4:=qAg (HB3.out.trans (hb4.mono HB3.out.size));obtain⟨x0,x1,x2,x3,x4⟩:=HCV.out w4 HB4.out;clear hb4 y0 y1 y2 y3 y4)
      |(go_at_call 9
        refine(MA1.out w4 HB4.out).mono ?_
        intro e w5 hrm
        obtain⟨rfl,hb5⟩:e= .returned (.tuple #[.slice none 0 0,.bool false])∧Below w4.heap.size w4 w5:=(by
         obtain⟨hb,⟨-,he⟩|⟨L',-,-,hL',-⟩⟩:=hrm
         · exact⟨he,hb⟩
         · exact absurd HNv.out hL'.right.never)
        have HB5:=qAg (HB4.out.trans (hb5.mono HB4.out.size))
        clear hb5 hrm x0 x1 x2 x3 x4)
      |(go_at_call 5;refine(AN.out _).mono ?_;rintro e w6 ⟨rfl,hb6⟩;have HB6:=qAg (HB5.out.trans (hb6.mono HB5.out.size));clear hb6))
     go_ret
     exact⟨rfl,HBB.out _ HB6.out⟩
 refine jX ?_;intro HB2
 have hLn:L.length=n1:=by rw[hL.len,HN1.out]
 have hn8:n1≤8:=by have:=(qA1.1 (qAw hc)).f8;rw[←HN1.out];omega
 have HL:=qAg hL
 have HC:=qAg hc
 have HN:Hid (L.length=n1):=hLn
 rw[hLn] at hR hG⊢
 have HQ2:=qAg hR
 have HG2:=qAg hG
 rw[hc] at RC1
 rw[hm] at RN1
 have MA1:Hid (∀v,Below W.heap.size W v→Calls Tryz.prog 9 #[.agg #[.slice A0 n0 c0,.slice A1 n1 c1,.slice A2 n2 c2,.slice A3 n3 c3,.slice A4 n4 c4]] v (RMaps m v)):=fun v hv=>MA.out hc v (HBB.out v hv)
 have FX1:=qAg (FX.out hc)
 have hq0:=hq
 have hs1:=HB1.out.size
 clear hch hb2 hL hLn hR hG hc hm hq x0 x1 x2 x3 x4 MA FX
 obtain⟨x0,x1,x2,x3,x4⟩:=HCV.out w2 HB2.out
 go_wp2_with (first
  |(go_at_call 7;refine(RC1.out w2 HB2.out).mono ?_;rintro e w3 ⟨rfl,hb3⟩;have HB3:=qAg (HB2.out.trans (hb3.mono HB2.out.size));have HB23:=qAg hb3;obtain⟨y0,y1,y2,y3,y4⟩:=HCV.out w3 HB3.out;clear hb3 x0 x1 x2 x3 x4)
  |(go_at_call 8;refine(RN1.out w3 HB3.out).mono ?_;rintro e w4 ⟨rfl,hb4⟩;have HB4:=qAg (HB3.out.trans (hb4.mono HB3.out.size));have HB24:=qAg (HB23.out.trans (hb4.mono HB23.out.size));obtain⟨x0,x1,x2,x3,x4⟩:=HCV.out w4 HB4.out;clear hb4 y0 y1 y2 y3 y4)
  |(go_at_call 9
    refine(MA1.out w4 HB4.out).mono ?_
    intro e w5 hrm
    obtain⟨A',c',rfl,hb5,hcm,hsq⟩:∃A' c',e= .returned (.tuple #[.slice A' n1 c',.bool true])∧Below w4.heap.size w4 w5∧c'≤9223372036854775807∧Sq rowL (·<w5.heap.size) w5 A' L:=(by
     obtain⟨hb,⟨hN,-⟩|⟨L',A',c',hL',he,⟨A'',c'',e1,-,hcm,hsq⟩⟩⟩:=hrm
     · exact absurd hN HL.out.right.never
     · obtain rfl:=HL.out.same hL'
       simp only[List.cons.injEq,Value.slice.injEq,and_true,true_and] at e1
       obtain⟨rfl,rfl⟩:=e1
       rw[HN.out] at he
       exact⟨A',c',he,hb,hcm,hsq⟩)
    have HB5:=qAg (HB4.out.trans (hb5.mono HB4.out.size))
    have HB25:=qAg (HB24.out.trans (hb5.mono HB24.out.size))
    have HSq:=qAg hsq
    obtain⟨y0,y1,y2,y3,y4⟩:=HCV.out w5 HB5.out
    clear hb5 hrm hsq x0 x1 x2 x3 x4))
 clear y0 y1 y2 y3 y4
 have HQ:Hid (Rg w5 q 45 n1 (celS (lenF L) g n1)):=HQ2.out.below HB25.out HQ2.out.lt
 have HG:Hid (Regs q n1 (lenF L) (rowF m L) g w5):=HG2.out.below HB25.out
 have HWV:Hid (∀v,Below w5.heap.size w5 v→Below W.heap.size W v):=fun v hb=>HB5.out.trans (hb.mono HB5.out.size)
 go_loopw [8] (fun i wr=>∃k:Nat,k≤n1∧i= .int .i64 (k:Nat)∧Below w5.heap.size w5 wr) (fun i _=>n1-(intOf i).toNat)
 case atStart=>exact⟨0,qAq _,rfl,qAk _ _⟩
 case round=>
  obtain⟨wf,eW⟩:∃wf,wf=wr:=⟨_,rfl⟩
  subst eW
  obtain⟨k,hk,rfl,hbf⟩:=hrel
  have HBf:=qAg hbf
  have hsf:=hbf.size
  clear hbf
  by_cases hlt:k<n1
  · obtain⟨fn,hfn⟩:∃fn,m.funcs[k]? =some fn:=⟨m.funcs[k]'(by rw[HN1.out];exact hlt),List.getElem?_eq_getElem _⟩
    obtain⟨l,hl⟩:∃l,L[k]? =some l:=⟨L[k]'(by rw[HN.out];exact hlt),List.getElem?_eq_getElem _⟩
    have hLe:=HL.out.at_ k fn l hfn hl
    have k0:(0:Int)≤(k:Int):=by omega
    have k1:(k:Int)<(n1:Int):=by omega
    have hkL:k<L.length:=by rw[HN.out];exact hlt
    have hl64:=lenF_le HC.out HL.out hkL
    obtain⟨aL,D,dl,rfl,hab,hcl,hld,hdm,hSl⟩:=qHG HSq.out hl
    obtain⟨len,hlen⟩:∃len,lenF L k=len:=⟨_,rfl⟩
    have hll:l.length=len:=by rw[←hlen];simp[lenF,hl]
    obtain⟨B,hB⟩:∃B,g k=B:=⟨_,rfl⟩
    have HCk:Hid (∀v,Below w5.heap.size w5 v→v.cell? ⟨q,k,none⟩=some (.slice (some ⟨B,0,none⟩) len len)):=fun v hb=>by
     have:=((HQ.out.below hb HQ.out.lt).cell hlt)
     rw[this,celS,if_pos hlt,hlen,hB]
    have HRk:Hid (∀v,Below w5.heap.size w5 v→∀p c,p<len→c<6→v.cell? ⟨B,p*6+c,none⟩=some (.int .i64 (rowF m L k p c))):=fun v hb p c hp hc6=>by
     have:=((HG.out.row k hlt).below hb (HG.out.row k hlt).lt).cell (i:=p*6+c) (by rw[hlen];omega)
     rw[hB] at this
     rw[this,cel6,show(p*6+c) / 6=p by omega,show(p*6+c) % 6=c by omega]
    rw[hll] at hcl hld
    have HMc:Hid (∀v,Below w5.heap.size w5 v→v.cell? (aL.add k)=some (.slice D len dl)):=fun v hb=>(hb.cell (p:=aL.add k) qB).trans hcl
    have HLe:=qAg hLe
    have HLl:=qAg hl
    have HLm:=qAg hll
    have HFn:=qAg hfn
    have HSl:=qAg hSl
    unfold maxLen at hdm
    have hdm':dl≤9223372036854775807:=by omega
    rw[hlen] at hl64
    obtain⟨q1,q2,q3,-⟩:=qBR HC.out (qAl hfn)
    obtain⟨A0',a,A2',A3',A4',n0',n2',n3',n4',d0,d1,d2,d3,d4,P0,P1,b,e0,e1,e2,ecs,hab2,hbb2,hfx⟩:=FX1.out k fn hfn
    simp only[List.cons.injEq,Value.slice.injEq,and_true] at ecs
    obtain⟨⟨rfl,rfl,rfl⟩,⟨rfl,-,rfl⟩,⟨rfl,rfl,rfl⟩,⟨rfl,rfl,rfl⟩,rfl,rfl,rfl⟩:=ecs
    refine qAG ?_;intro ua hua ul hul uc huc
    rw[hua,hul,huc,HN1.out] at hfx
    rw[hua] at q1
    rw[hul] at q2
    rw[huc] at q3
    have HFX:=qAg hfx
    have HUa:=qAg hua
    have HUl:=qAg hul
    have huc2:uc=len:=by rw[←huc,←HLe.out.len,hll]
    have HUc:=qAg huc
    obtain⟨z0,z1,z2,z3,z4⟩:=HCV.out wf (HWV.out _ HBf.out)
    obtain⟨⟨f0,f1,f2,f3,f4⟩,-⟩:=hfx wf (HBB.out _ (HWV.out _ HBf.out))
    clear hfn hl hLe hkL hlen hB hll hab hcl hSl hdm hua hul huc hfx hab2 hbb2
    subst huc2
    go_upto_region 18 with(fail)
    refine qAs fun X hX=> ?_
    have HBX:Hid (Below wf.heap.size wf X):=by show Below _ _ _;rw[hX];exact qAo wf _
    have HFb:Hid (Blk X wf.heap.size 44 #[.slice P0 ua e0,.int .i64 fn.ret.1,.int .i64 fn.ret.2,.slice P1 ul e1,.slice (some b) uc e2]):=by show Blk _ _ _ _;rw[hX];exact qA9 rfl
    have sX:X.heap.size=wf.heap.size+1:=by rw[hX];simp
    clear hX z0 z1 z2 z3 z4 f0 f1 f2 f3 f4
    have HBX5:Hid (Below w5.heap.size w5 X):=HBf.out.trans (HBX.out.mono hsf)
    have c1':=HCk.out X HBX5.out
    have c2':=HFb.out.cell 4
    go_region
    go_wp2_with fail
    clear c1' c2'
    go_loopw [10] (fun i wr=>∃p:Nat,p≤uc∧i= .int .i64 (p:Nat)∧Below X.heap.size X wr) (fun i _=>uc-(intOf i).toNat)
    case atStart=>exact⟨0,qAq _,rfl,by first|exact(qAk _ X).drew|exact qAk _ _⟩
    case round=>
     obtain⟨y,eY⟩:∃y,y=wr:=⟨_,rfl⟩
     subst eY
     obtain⟨p,hp,rfl,hby⟩:=hrel
     have HBy:=qAg hby
     have hsy:=hby.size
     have HBy5:Hid (Below w5.heap.size w5 y):=HBX5.out.trans (hby.mono (by omega))
     have z:=HCk.out y HBy5.out
     clear hby
     by_cases hlp:p<uc
     · have p0:(0:Int)≤(p:Int):=by omega
       have p1:(p:Int)<(uc:Int):=by omega
       obtain⟨⟨sn,st⟩,hsh⟩:∃sh,l[p]? =some sh:=⟨l[p]'(by rw[HLm.out];exact hlp),List.getElem?_eq_getElem _⟩
       obtain⟨⟨o,ia,ib⟩,hin⟩:∃i,fn.code[p]? =some i:=⟨fn.code[p]'(by rw[HUc.out];exact hlp),List.getElem?_eq_getElem _⟩
       obtain⟨a2,D2,c2',rfl,ha2,hb0,hb1,hc1,hc2,hn2,hst⟩:=qIg HSl.out hsh
       obtain⟨sl,hsl⟩:∃n,st.length=n:=⟨_,rfl⟩
       have HSc:Hid (∀v,Below w5.heap.size w5 v→v.cell? (a2.add (p*2))=some (.bool sn)∧v.cell? ⟨(a2.add (p*2)).block,(a2.add (p*2)).off+1,none⟩=some (.slice D2 sl c2')):=fun v hv=>by
        have e1:=(hv.cell (p:=a2.add (p*2)) (by rw[qAz];exact ha2)).trans hb0
        have e2:=(hv.cell (p:=⟨(a2.add (p*2)).block,(a2.add (p*2)).off+1,none⟩) (by simp only[qAz];exact ha2)).trans hb1
        simp only[hsl] at e1 e2
        exact⟨e1,e2⟩
       have HSh:=qAg hsh
       have HIn:=qAg hin
       have HSt:=qAg hst
       have HSlen:=qAg hsl
       simp only at hc1
       rw[hsl] at hc1
       unfold maxLen at hc2
       have hc2':c2'≤9223372036854775807:=by omega
       have d0:=HRk.out y HBy5.out p 0 hlp (by omega)
       rw[Nat.add_zero] at d0
       have d1:=HRk.out y HBy5.out p 1 hlp (by omega)
       have d2:=HRk.out y HBy5.out p 2 hlp (by omega)
       have d3:=HRk.out y HBy5.out p 3 hlp (by omega)
       have d4:=HRk.out y HBy5.out p 4 hlp (by omega)
       have d5:=HRk.out y HBy5.out p 5 hlp (by omega)
       clear hsh hin hst hb0 hb1 hc2 hsl ha2
       cases sn
       · have HR0:∀c,rowF m L k p c=0:=fun c=>by simp[rowF,HLl.out,HFn.out,regF,HSh.out]
         rw[HR0] at d0 d1 d2 d3 d4 d5
         clear HR0
         go_upto_region 24 with(fail)
         refine qAs fun Y hY=> ?_
         have HBY:Hid (Below y.heap.size y Y):=by show Below _ _ _;rw[hY];exact qAo y _
         have HXb:Hid (Blk Y y.heap.size 47 #[.int .i64 0,.int .i64 0,.int .i64 0,.int .i64 0,.int .i64 0,.int .i64 0]):=by show Blk _ _ _ _;rw[hY];exact qA9 rfl
         clear hY z d0 d1 d2 d3 d4 d5
         have HBY5:Hid (Below w5.heap.size w5 Y):=HBy5.out.trans (HBY.out.mono HBy5.out.size)
         have m1:=HMc.out Y HBY5.out
         obtain⟨m2,m3⟩:=HSc.out Y HBY5.out
         have x0:=HXb.out.cell 0
         have x1:=HXb.out.cell 1
         have x2:=HXb.out.cell 2
         have x3:=HXb.out.cell 3
         have x4:=HXb.out.cell 4
         have x5:=HXb.out.cell 5
         go_wp2_with fail
         exact⟨⟨p+1,by omega,by simp,HBy.out.trans (HBY.out.mono hsy)⟩,by simp[intOf];omega⟩
       obtain⟨i',t,ks,hi',hins,-⟩:=HLe.out.ok p (by rw[HUc.out];exact hlp) st (qA7 HSh.out)
       obtain rfl:i'=(o,ia,ib):=by rw[HIn.out] at hi';injection hi' with hi';exact hi'.symm
       have hs8:sl≤8:=by rw[←HSlen.out];exact(HLe.out.run.can p st (qA7 HSh.out)).2
       obtain⟨⟨ins,outs⟩,hrule⟩:∃io,ruleB m fn (o,ia,ib) st=some io:=by
        cases hr:ruleB m fn (o,ia,ib) st with
        |none=>simp[insB8,hr] at hins
        |some io=>exact⟨io,rfl⟩
       obtain⟨cn1,cn2,cn3,-⟩:=qFK hins
       simp only[cntB,hrule] at cn1 cn2 cn3
       obtain⟨ni,hni⟩:∃n,ins.length=n:=⟨_,rfl⟩
       obtain⟨no,hno⟩:∃n,outs.length=n:=⟨_,rfl⟩
       have hrow:∀c,rowF m L k p c=[o,ia,ib,((ua+ul+sl-ni:Nat):Int),(ni:Int),(no:Int)].getD c 0:=fun c=>by
        simp only[rowF,HLl.out,HFn.out,regF,HSh.out,HIn.out,regB,cntB,hrule,HUa.out,HUl.out,HSlen.out,hni,hno]
       rw[hrow] at d0 d1 d2 d3 d4 d5
       simp only[List.getD_cons_succ,List.getD_cons_zero] at d0 d1 d2 d3 d4 d5
       rw[hni,HSlen.out] at cn1
       have HRu:Hid (∀v,Below w5.heap.size w5 v→Calls Tryz.prog 10 #[.agg #[.slice A0 n0 c0,.slice (some a) n1 c1,.slice A2 n2 c2,.slice A3 n3 c3,.slice A4 n4 c4],.agg #[.slice P0 ua e0,.int .i64 fn.ret.1,.int .i64 fn.ret.2,.slice P1 ul e1,.slice (some b) uc e2],.agg #[.int .i64 o,.int .i64 ia,.int .i64 ib],.slice D2 sl c2'] v fun e w'=>Below v.heap.size v w'∧∃A6 c6 B6 d6,e= .returned (.tuple #[.slice A6 ni c6,.slice B6 no d6,.bool true])):=fun v hv=>by
        refine((HFX.out v (HBB.out _ (HWV.out _ hv))).2.2 p (o,ia,ib) D2 sl c2' st HIn.out HSlen.out ((HSt.out.below hv (qAi _)).wide fun b hb=>qAh hb hv.size) (by omega) hc1 hc2').mono ?_
        intro e w' hr
        rw[hrule] at hr
        obtain⟨hb,A6,c6,B6,d6,he,-,-⟩:=qBv hr
        rw[hni,hno] at he
        exact⟨hb,A6,c6,B6,d6,he⟩
       clear hins hi' hrule hni hno hrow cn2 cn3
       have m1:=HMc.out y HBy5.out
       obtain⟨m2,m3⟩:=HSc.out y HBy5.out
       have b4:=(qAx HFb.out HBy.out (by omega)).cell 4
       go_upto_region 24 with(fail)
       refine qAs fun Y hY=> ?_
       have HBY:Hid (Below y.heap.size y Y):=by show Below _ _ _;rw[hY];exact qAo y _
       have HXb:Hid (Blk Y y.heap.size 47 #[.int .i64 o,.int .i64 ia,.int .i64 ib,.int .i64 ((ua+ul+sl-ni:Nat):Int),.int .i64 (ni:Int),.int .i64 (no:Int)]):=by show Blk _ _ _ _;rw[hY];exact qA9 rfl
       clear hY z d0 d1 d2 d3 d4 d5 m1 m2 m3 b4
       have HBY5:Hid (Below w5.heap.size w5 Y):=HBy5.out.trans (HBY.out.mono HBy5.out.size)
       have HBYX:Hid (Below X.heap.size X Y):=HBy.out.trans (HBY.out.mono hsy)
       have m1:=HMc.out Y HBY5.out
       obtain⟨m2,m3⟩:=HSc.out Y HBY5.out
       have b4:=(qAx HFb.out HBYX.out (by omega)).cell 4
       obtain⟨i0,i1,i2⟩:=(HFX.out Y (HBB.out _ (HWV.out _ HBY5.out))).2.1 p (o,ia,ib) HIn.out
       simp only at i0 i1 i2
       go_upto_region 28 with(fail)
       refine qAs fun Z hZ=> ?_
       have HBZ:Hid (Below Y.heap.size Y Z):=by show Below _ _ _;rw[hZ];exact qAo Y _
       have HIb:Hid (Blk Z Y.heap.size 52 #[.int .i64 o,.int .i64 ia,.int .i64 ib]):=by show Blk _ _ _ _;rw[hZ];exact qA9 rfl
       have HsZ:Hid (Z.heap.size=Y.heap.size+1):=by show Z.heap.size=_;rw[hZ];simp
       clear hZ m1 m2 m3 b4 i0 i1 i2
       have HLd:Hid (∀v,Below Z.heap.size Z v→v.cell? ⟨w.heap.size,0,none⟩=some (.slice A0 n0 c0)∧v.cell? ⟨w.heap.size,1,none⟩=some (.slice (some a) n1 c1)∧v.cell? ⟨w.heap.size,2,none⟩=some (.slice A2 n2 c2)∧v.cell? ⟨w.heap.size,3,none⟩=some (.slice A3 n3 c3)∧v.cell? ⟨w.heap.size,4,none⟩=some (.slice A4 n4 c4)∧v.cell? ⟨wf.heap.size,0,none⟩=some (.slice P0 ua e0)∧v.cell? ⟨wf.heap.size,1,none⟩=some (.int .i64 fn.ret.1)∧v.cell? ⟨wf.heap.size,2,none⟩=some (.int .i64 fn.ret.2)∧v.cell? ⟨wf.heap.size,3,none⟩=some (.slice P1 ul e1)∧v.cell? ⟨wf.heap.size,4,none⟩=some (.slice (some b) uc e2)∧v.cell? ⟨Y.heap.size,0,none⟩=some (.int .i64 o)∧v.cell? ⟨Y.heap.size,1,none⟩=some (.int .i64 ia)∧v.cell? ⟨Y.heap.size,2,none⟩=some (.int .i64 ib)∧v.cell? (aL.add k)=some (.slice (some a2) uc dl)∧v.cell? ⟨(a2.add (p*2)).block,(a2.add (p*2)).off+1,none⟩=some (.slice D2 sl c2')):=fun v hv=>by
        have hv5:Below w5.heap.size w5 v:=HBY5.out.trans ((HBZ.out.trans (hv.mono HBZ.out.size)).mono HBY5.out.size)
        have hvX:Below X.heap.size X v:=HBYX.out.trans ((HBZ.out.trans (hv.mono HBZ.out.size)).mono HBYX.out.size)
        obtain⟨p0,p1,p2,p3,p4⟩:=HCV.out v (HWV.out _ hv5)
        have hf:=qAx HFb.out hvX (by omega)
        have hi:=qAx HIb.out hv (by have:=HsZ.out;omega)
        exact⟨p0,p1,p2,p3,p4,hf.cell 0,hf.cell 1,hf.cell 2,hf.cell 3,hf.cell 4,hi.cell 0,hi.cell 1,hi.cell 2,HMc.out v hv5,(HSc.out v hv5).2⟩
       have SD:=qAg (HLd.out Z.drew (qAk _ Z).drew)
       go_region_held3 (fun v=>v.cell? ⟨w.heap.size,0,none⟩=some (.slice A0 n0 c0)∧v.cell? ⟨w.heap.size,1,none⟩=some (.slice (some a) n1 c1)∧v.cell? ⟨w.heap.size,2,none⟩=some (.slice A2 n2 c2)∧v.cell? ⟨w.heap.size,3,none⟩=some (.slice A3 n3 c3)∧v.cell? ⟨w.heap.size,4,none⟩=some (.slice A4 n4 c4)∧v.cell? ⟨wf.heap.size,0,none⟩=some (.slice P0 ua e0)∧v.cell? ⟨wf.heap.size,1,none⟩=some (.int .i64 fn.ret.1)∧v.cell? ⟨wf.heap.size,2,none⟩=some (.int .i64 fn.ret.2)∧v.cell? ⟨wf.heap.size,3,none⟩=some (.slice P1 ul e1)∧v.cell? ⟨wf.heap.size,4,none⟩=some (.slice (some b) uc e2)∧v.cell? ⟨Y.heap.size,0,none⟩=some (.int .i64 o)∧v.cell? ⟨Y.heap.size,1,none⟩=some (.int .i64 ia)∧v.cell? ⟨Y.heap.size,2,none⟩=some (.int .i64 ib)∧v.cell? (aL.add k)=some (.slice (some a2) uc dl)∧v.cell? ⟨(a2.add (p*2)).block,(a2.add (p*2)).off+1,none⟩=some (.slice D2 sl c2'))
        (first|with_reducible exact SS5.out|with_reducible exact SD.out)
        (first
        |(go_at_call 10
          refine(HRu.out _ (HBY5.out.trans (HBZ.out.drew.mono HBY5.out.size))).mono ?_
          rintro e w6 ⟨hb6,A6,c6,B6,d6,rfl⟩
          have HB6:Hid (Below Z.heap.size Z w6):=(by show Below _ _ _;exact(qAk _ Z).drew.trans (hb6.mono (by simp)))
          have SS5:=qAg (HLd.out _ HB6.out)
          clear hb6))
       simp only[Exit.then]
       have hw1:IntKind.i64.wrap ((ua:Int)+(ul:Int))=(ua:Int)+(ul:Int):=by rw[qAv];omega
       have hw2:IntKind.i64.wrap ((ua:Int)+(ul:Int)+(sl:Int))=(ua:Int)+(ul:Int)+(sl:Int):=by rw[qAv];omega
       have hw3:IntKind.i64.wrap ((ua:Int)+(ul:Int)+(sl:Int)-(ni:Int))=((ua+ul+sl-ni:Nat):Int):=by rw[qAv];omega
       obtain⟨-,-,-,-,-,f0,-,-,f3,-,i0,i1,i2,m1,m3⟩:=SS5.out
       go_upto_region 29 with(fail)
       have hx6:=qAx HXb.out (HBZ.out.trans (HB6.out.mono HBZ.out.size)) HXb.out.lt
       have x0:=hx6.cell 0
       have x1:=hx6.cell 1
       have x2:=hx6.cell 2
       have x3:=hx6.cell 3
       have x4:=hx6.cell 4
       have x5:=hx6.cell 5
       clear hx6
       go_region
       go_wp2_with fail
       exact⟨⟨p+1,by omega,by simp,by first|exact(HBYX.out.trans ((HBZ.out.trans (HB6.out.mono HBZ.out.size)).mono HBYX.out.size)).drew|exact(HBYX.out.trans ((HBZ.out.trans (HB6.out.mono HBZ.out.size)).mono HBYX.out.size))⟩,by simp[intOf];omega⟩
     · obtain rfl:p=uc:=by omega
       go_wp2_with fail
       exact⟨⟨k+1,by omega,by simp,HBy5.out⟩,by simp[intOf];omega⟩
  · obtain rfl:k=n1:=by omega
    go_wp2_with (first|(go_at_call 5;refine(AN.out _).mono ?_;rintro e w6 ⟨rfl,hb6⟩;have HB6:=qAg (HBf.out.trans (hb6.mono HBf.out.size));clear hb6))
    go_ret
    exact⟨rfl,HBB.out _ (HWV.out _ HB6.out)⟩
set_option maxRecDepth 100000 in
theorem lifted (os:Os) (started:os.Started) (H:Type) (enc:TypeId×Value→H):
 ReturnsInHanded {} Tryz.checked os 3 .any (Rows.irCompilesSpec.pre6 enc Tryz.prog Tryz.f3 Rows.irCompilesRow.domain false) (Rows.irCompilesSpec.post enc Tryz.prog Tryz.f3 false true false false):=by
 refine returnsInHanded_of_change_sized (C:=Tryz.checked) own started qV Tryz.func3
  (ChangeSpec.witness6 (enc:=enc) (C:=Tryz.checked) false ⟨#[],#[.agg #[.slice none 0 0,.slice none 0 0,.slice none 0 0,.slice none 0 0,.slice none 0 0]],[]⟩ 8 qV qV qV qV) ?_
 intro W base args ds gs before hval0 hW hcnd hwz _
 have hval:∀(j:Nat) t v,Tryz.f3.params[j]? =some t→args[j]? =some v→Value.okWide Tryz.prog W .any base t v:=hval0
 have hW':=hW
 obtain⟨p,q,hA0,hV,rfl,hfz,hnd⟩:=hW
 have hA:DataW.TrodAll enc Tryz.prog W 0 (fun _=>true) true Tryz.f3.params.toList args.toList ds p:=hA0
 rw[Tryz.params3] at hA hval
 obtain⟨v0,vs0,d0,ds0,p0,q0,hargs,rfl,rfl,h0,r0⟩:=trodAll_cons hA
 obtain⟨rfl,rfl,rfl⟩:=trodAll_nil r0
 obtain rfl:args= #[v0]:=by cases args;simp_all
 obtain⟨rfl,rfl⟩:=trodVars_none hV
 have lt0:∀x∈p0,x.block<W.heap.size:=by obtain⟨m,hm⟩:=h0;exact DataW.trod_lt m _ _ _ hm
 have hwz0:∀n∈d0.weights Tryz.prog 28,n≤reachBytes:=fun n hn=>by simpa using List.all_eq_true.1 hwz n (DataW.weights_mem_each (j:=0) (t:=28) (d:=d0) (by first|rfl|kernel_rfl) rfl n hn)
 obtain⟨cs0,m0,rfl,hm0,hz0⟩:=qHy h0 hwz0
 clear hA0 hval0
 refine(walk cs0 m0 W hm0 hz0).mono fun e W' ⟨he,bel⟩=> ?_
 subst he
 exact⟨_,rfl,_,_,_,[],_,[],hW',trodAll_mk1 (shut_bool Tryz.underlying4 _),(trodAll_cons_mk (Below.trod laidOut qV (of_decide_eq_true qV) h0 bel lt0) trodAll_mk0),rfl,bel.frame _,fun h=>by cases h⟩
theorem over:Rows.irCompilesRow.holds Tryz.pinned (OpenSpec.ofChange Rows.irCompilesSpec):=
 OpenClaim.holds_of_wide 3 Tryz.f3 rfl rfl rfl rfl rfl rfl rfl ⟨rfl,rfl,rfl,rfl,rfl⟩ rfl rfl rfl rfl rfl qV Tryz.func3 qV
  (of_decide_eq_true qV) (by unfold Func.isWrapper;first|(rw[if_pos zZ];kernel_rfl)|(rw[if_neg zZ];exact⟨rfl,rfl⟩))
  (fun os started H enc _=>lifted os started H enc)
/-- The statement. -/
theorem proved:Rows.IrCompilesSaid:=over
end Go.Proofs.YtelceoecekfamaaGreat.irCompiles
