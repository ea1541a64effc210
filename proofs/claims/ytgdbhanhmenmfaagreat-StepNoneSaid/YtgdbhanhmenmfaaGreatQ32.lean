/-
Gt
-/
import Derived.Test.YtgdbhanhmenmfaaGreatQ25
import Derived.Test.YtgdbhanhmenmfaaGreatQ26
import Derived.Test.YtgdbhanhmenmfaaGreatQ31
set_option linter.unusedSimpArgs false
set_option linter.unusedVariables false
set_option maxRecDepth 100000
set_option maxHeartbeats 4000000
namespace Go.Proofs.YtgdbhanhmenmfaaGreat
open Go.RowKit
theorem qA {P:Prop} (h:P:=by
 generalize typedB m L s=g at*
 go_enter Tryz.func24,Tryz.ntmps24
 go_upto_region 1 with(fail)
 refine qBV fun W hW=> ?_;obtain⟨hBW,hsW,hC5,hC7⟩:=HWW.out W (by rw[hW]);have HBW:=qBK hBW;have HBB:Hid (∀v,Below W.heap.size W v→Below w.heap.size w v):=fun v hb=>HBW.out.trans (hb.mono HBW.out.size);have HCM:Hid (∀v,Below W.heap.size W v→C5 w.heap.size (.slice A0 n0 d0) (.slice A1 n1 d1) (.slice A2 n2 d2) (.slice A3 n3 d3) (.slice A4 n4 d4) v):=fun v hb=>hC5.below hb (by omega);have HCS:Hid (∀v,Below W.heap.size W v→C7 (w.heap.size+1) (.slice F nf cf) (.slice O no co) (.slice H nh ch) (.int .i64 s.quota) (.int .i64 s.used) (.int .i64 s.fin) (.int .u64 (s.val:Int)) v):=fun v hb=>hC7.below hb hsW;clear hW hBW hC5 hC7;obtain⟨x0,x1,x2,x3,x4,x5,x6⟩:=HCS.out W (qBO _ _)
 go_upto_region 4 with(first
  |(go_at_call 49
    (with_reducible refine(WCc.out _ ?_).mono ?_)
    · exact HBW.out
    rintro e w1 ⟨rfl,hb1⟩;have HB1:=qBK hb1;obtain⟨y0,y1,y2,y3,y4⟩:=HCM.out w1 hb1;clear hb1 x0 x1 x2 x3 x4 x5 x6)
  |(go_at_call 50
    (with_reducible refine(JRc.out _ ?_).mono ?_)
    · exact HBB.out _ HB1.out
    rintro e w2 ⟨rfl,hb2⟩;have HB2:=qBK (HB1.out.trans (hb2.mono HB1.out.size));obtain⟨x0,x1,x2,x3,x4,x5,x6⟩:=HCS.out w2 HB2.out;clear hb2 y0 y1 y2 y3 y4)
  |(go_at_call 51
    refine(qCz _ _ _ _ _ _ _ _).mono ?_;rintro e w3 ⟨rfl,hb3,hs3,hc3⟩;have HB3:=qBK (HB2.out.trans (hb3.mono HB2.out.size));have HC3:=qBK hc3;have HS3:=qBK hs3;clear hb3 hc3 hs3 x0 x1 x2 x3 x4 x5 x6))
 obtain⟨P,hP⟩:∃P,w2.heap.size=P:=⟨_,rfl⟩;have HSz3:Hid (P<w3.heap.size):=by show _<_;have:=HS3.out;omega
 rw[hP] at HC3;rw[hP];clear hP HS3;have HHas:Hid (HasAt ⟨P,0,none⟩ s w3):=fun w4 x y hb hx y1 y2=>by
  have hb2:=HBB.out _ (HB3.out.trans (hb.mono HB3.out.size));exact qCk P F O H nf cf no co nh ch _ _ _ _ s x y w4 (HC3.out.below hb HSz3.out) HNO.out HNH.out (HSq.out w4 hb2).2.1 (HSq.out w4 hb2).2.2.1 b2 b3 hx y1 y2
 have HRc:Hid (∀v,Below w3.heap.size w3 v→Sq tysL (·<v.heap.size) v A0 m.recs∧m.recs.length=n0∧n0≤9223372036854775807):=fun v hb=>by
  obtain⟨_,_,_,_,_,ex,⟨A',d',ex1,l1,m1,s1⟩,-⟩:=qCA HM.out (HBB.out _ (HB3.out.trans (hb.mono HB3.out.size)));simp only[List.cons.injEq,and_true] at ex;obtain⟨rfl,-⟩:=ex;simp only[List.cons.injEq,Value.slice.injEq,and_true] at ex1;obtain⟨rfl,e2,rfl⟩:=ex1;exact⟨s1,e2.symm,by unfold maxLen at m1;omega⟩
 have HB33:Hid (∀v,Below w3.heap.size w3 v→Below W.heap.size W v):=fun v hb=>HB3.out.trans (hb.mono HB3.out.size);have CHc:Hid (∀v,Below w3.heap.size w3 v→Calls Tryz.prog 52 #[.slice H nh ch,.func (.func 53) #[] #[]] v fun e w'=>e= .returned (.bool (s.hn.any fun h=> !handB h))∧Below v.heap.size v w'):=fun v hb=>qEf H nh ch s.hn (fun h=> !handB h) v HNH.out (HSq.out v (HBB.out _ (HB33.out v hb))).2.2.1 b3 fun w1 cs x _ _ hr=>qDh x w1 cs hr;have COc:Hid (∀v X,Below w3.heap.size w3 v→C5 X (.slice A0 n0 d0) (.slice A1 n1 d1) (.slice A2 n2 d2) (.slice A3 n3 d3) (.slice A4 n4 d4) v→v.cell? ⟨X+1,0,none⟩=some (.func (.func 90) #[] #[.pointer (some ⟨P,0,none⟩)])→Calls Tryz.prog 54 #[.slice O no co,.func (.func 93) #[] #[.pointer (some ⟨X,0,none⟩),.pointer (some ⟨X+1,0,none⟩)]] v (Tells (s.hp.any fun o=> !objB m s o) v)):=fun v X hb hX hX1=>qCS O no co s.hp (fun o=> !objB m s o) ⟨X,0,none⟩ ⟨X+1,0,none⟩ v HNO.out (HSq.out v (HBB.out _ (HB33.out v hb))).2.1 b2 fun w1 cs x hb1 _ hr=>by
  have hb2:=hb.trans (hb1.mono hb.size);obtain⟨r1,r2,r3⟩:=HRc.out w1 hb2;exact qB2 X (X+1) ⟨P,0,none⟩ A0 n0 d0 _ _ _ _ m s x w1 cs hr r2 r3 r1 (hX.below hb1 (qBR v _ hX.1)) ((hb1.cell (p:=⟨X+1,0,none⟩) (qBR v _ hX1)).trans hX1) (HHas.out.low hb2)
 have HS4:Hid (∀v,Below w3.heap.size w3 v→v.cell? ⟨w.heap.size,0,none⟩=some (.slice A0 n0 d0)∧v.cell? ⟨w.heap.size,1,none⟩=some (.slice A1 n1 d1)∧v.cell? ⟨w.heap.size,2,none⟩=some (.slice A2 n2 d2)∧v.cell? ⟨w.heap.size,3,none⟩=some (.slice A3 n3 d3)∧v.cell? ⟨w.heap.size,4,none⟩=some (.slice A4 n4 d4)∧v.cell? ⟨w.heap.size+1,1,none⟩=some (.slice O no co)∧v.cell? ⟨w.heap.size+1,2,none⟩=some (.slice H nh ch)):=fun v hb=>⟨(HCM.out v (HB33.out v hb)).1,(HCM.out v (HB33.out v hb)).2.1,(HCM.out v (HB33.out v hb)).2.2.1,(HCM.out v (HB33.out v hb)).2.2.2.1,(HCM.out v (HB33.out v hb)).2.2.2.2,(HCS.out v (HB33.out v hb)).2.1,(HCS.out v (HB33.out v hb)).2.2.1⟩;rw[HHN.out] at CHc;rw[HOB.out] at COc
 go_region_held3 (fun v=>v.cell? ⟨w.heap.size,0,none⟩=some (.slice A0 n0 d0)∧v.cell? ⟨w.heap.size,1,none⟩=some (.slice A1 n1 d1)∧v.cell? ⟨w.heap.size,2,none⟩=some (.slice A2 n2 d2)∧v.cell? ⟨w.heap.size,3,none⟩=some (.slice A3 n3 d3)∧v.cell? ⟨w.heap.size,4,none⟩=some (.slice A4 n4 d4)∧v.cell? ⟨w.heap.size+1,1,none⟩=some (.slice O no co)∧v.cell? ⟨w.heap.size+1,2,none⟩=some (.slice H nh ch))
  (first|exact HS4.out _ (qBO _ w3).drew|(have hz:=HB5.out;clear hz;first|exact HS4.out _ HB7.out|exact HS4.out _ HB6.out|exact HS4.out _ HB5.out))
  (first
  |(go_at_call 52
    (with_reducible refine(CHc.out _ ?_).mono ?_)
    · exact(qBO _ w3).drew
    rintro e w5 ⟨rfl,hb5⟩;have HB5:Hid (Below w3.heap.size w3 w5):=(qBO _ w3).drew.trans (hb5.mono (qBL _));clear hb5)
  |(go_at_call 55
    refine(qCG _ _ _ _ _ _ _).mono ?_;rintro e w6 ⟨rfl,hb6,hs6,hc6,hh6⟩;have HB6:Hid (Below w3.heap.size w3 w6):=HB5.out.trans (hb6.mono HB5.out.size);have E6:=qBK (COc.out w6 _ HB6.out hc6 hh6);clear hb6 hs6 hc6 hh6)
  |(go_at_call 54
    (with_reducible refine E6.out.mono ?_)
    rintro e w7 ⟨rfl,hb7⟩;have HB7:Hid (Below w3.heap.size w3 w7):=HB6.out.trans (hb7.mono HB6.out.size);clear hb7))
 go_upto_region 6 with(fail)
 obtain⟨x0,x1,x2,x3,x4,x5,x6⟩:=HCS.out w7 (HB33.out _ HB7.out);have HBF:=qBK (HBB.out _ (HB33.out _ HB7.out))
 go_wp2_with fail
 go_ret;exact⟨by rw[HO.out];rfl,HBF.out⟩):P:=h
theorem qFN {α:Type} (l:List α) (f:α→Bool):(l.any fun k=> !f k)= !l.all f:=by
 induction l with
 |nil=>rfl
 |cons a l ih=>simp only[List.any_cons,List.all_cons,ih,Bool.not_and]
theorem qLM (csm css:List Value) (m:Mod) (s:Stt) (D:Option Addr) (n c:Nat) (L:List (List Shape)) (w:World) (hm:modL.R (·<w.heap.size) w csm m) (hs:stL.R (·<w.heap.size) w css s) (hl:L.length=n) (hL:Sq rowL (·<w.heap.size) w D L) (hn:n≤9223372036854775807) (b0:Bool) (hb0:b0=true↔mainB m=true∧RightM m L):
 Calls Tryz.prog 24 #[vAgg csm,.slice D n c,vAgg css] w (Tells (b0 && typedB m L s) w):=by
 obtain⟨A0,A1,A2,A3,A4,n0,n1,n2,n3,n4,d0,d1,d2,d3,d4,rfl⟩:=qCj hm;obtain⟨F,cf,O,co,H,ch,rfl,k0,k0',k1,k1',k2,k2',sF,sO,sH,i1,i2,i3,i4⟩:=qCV hs;obtain⟨nf,hnf⟩:∃x,s.fr.length=x:=⟨_,rfl⟩;obtain⟨no,hno⟩:∃x,s.hp.length=x:=⟨_,rfl⟩;obtain⟨nh,hnh⟩:∃x,s.hn.length=x:=⟨_,rfl⟩;have WCc:Hid (∀w1,Below w.heap.size w w1→Calls Tryz.prog 49 #[.agg #[.slice F s.fr.length cf,.slice O s.hp.length co,.slice H s.hn.length ch,.int .i64 s.quota,.int .i64 s.used,.int .i64 s.fin,.int .u64 (s.val:Int)]] w1 (Tells (!countB s) w1)):=fun w1 hb=>qFE _ s w1 (stL.wide (stL.keep hs fun b h1=>hb.block b h1) fun b h1=>qBN h1 hb.size);have JRc:Hid (∀w1,Below w.heap.size w w1→Calls Tryz.prog 50 #[.agg #[.slice A0 n0 d0,.slice A1 n1 d1,.slice A2 n2 d2,.slice A3 n3 d3,.slice A4 n4 d4],.slice D n c] w1 fun e w'=>e= .returned (.bool b0)∧Below w1.heap.size w1 w'):=fun w1 hb=>qHM (qJz _ m D n c L w1 (qCA hm hb) hl (qCE hL hb) hn) hb0
 show Calls Tryz.prog 24 #[.agg #[.slice A0 n0 d0,.slice A1 n1 d1,.slice A2 n2 d2,.slice A3 n3 d3,.slice A4 n4 d4],.slice D n c,.agg #[.slice F s.fr.length cf,.slice O s.hp.length co,.slice H s.hn.length ch,.int .i64 s.quota,.int .i64 s.used,.int .i64 s.fin,.int .u64 (s.val:Int)]] w (Tells (b0 && typedB m L s) w)
 rw[hnf,hno,hnh] at WCc⊢;rw[hnf] at k0;rw[hno] at k1;rw[hnh] at k2;have HM:=qBK hm;have HSq:Hid (∀v,Below w.heap.size w v→Sq frL (·<v.heap.size) v F s.fr∧Sq obL (·<v.heap.size) v O s.hp∧Sq hdL (·<v.heap.size) v H s.hn∧Sq rowL (·<v.heap.size) v D L):=fun v hb=>⟨qCE sF hb,qCE sO hb,qCE sH hb,qCE hL hb⟩;have HNF:=qBK hnf;have HNO:=qBK hno;have HNH:=qBK hnh;have HL:=qBK hl;have HB0:=qBK hb0;unfold maxLen at k0' k1' k2';have b1:nf≤9223372036854775807:=by omega
 have b2:no≤9223372036854775807:=by omega
 have b3:nh≤9223372036854775807:=by omega
 have HI4:Hid (s.val<B64):=i4;clear hm hs hl hL hnf hno hnh k0 k0' k1 k1' k2 k2' sF sO sH i1 i2 i3 i4 hb0;have HWW:Hid (∀W,W=(w.alloc (.cells #[.slice A0 n0 d0,.slice A1 n1 d1,.slice A2 n2 d2,.slice A3 n3 d3,.slice A4 n4 d4] 28)).alloc (.cells #[.slice F nf cf,.slice O no co,.slice H nh ch,.int .i64 s.quota,.int .i64 s.used,.int .i64 s.fin,.int .u64 (s.val:Int)] 34)→Below w.heap.size w W∧w.heap.size+1<W.heap.size∧C5 w.heap.size (.slice A0 n0 d0) (.slice A1 n1 d1) (.slice A2 n2 d2) (.slice A3 n3 d3) (.slice A4 n4 d4) W∧C7 (w.heap.size+1) (.slice F nf cf) (.slice O no co) (.slice H nh ch) (.int .i64 s.quota) (.int .i64 s.used) (.int .i64 s.fin) (.int .u64 (s.val:Int)) W):=fun W hW=>by
  subst hW;exact⟨(qBe w _).alloc (by simp) _,by simp,by simp[C5,go_sem],by simp[C7,go_sem]⟩
 cases hcount:countB s
 · have HO:=qBK (qHG (m:=m) (L:=L) hcount)
   rw[hcount] at WCc;clear hcount;generalize typedB m L s=g at*
   go_enter Tryz.func24,Tryz.ntmps24
   go_upto_region 1 with(fail)
   refine qBV fun W hW=> ?_;refine z9 ?_;intro hBW hsW hC5 hC7 HBW HBB HCM HCS;clear hW hBW hC5 hC7;obtain⟨x0,x1,x2,x3,x4,x5,x6⟩:=HCS.out W (qBO _ _)
   go_wp2_with (first
    |(go_at_call 49
      (with_reducible refine(WCc.out _ ?_).mono ?_)
      · exact HBW.out
      rintro e w1 ⟨rfl,hb1⟩;refine qBG ?_;intro HB1 y0 y1 y2 y3 y4;clear hb1 x0 x1 x2 x3 x4 x5 x6))
   go_ret;exact⟨by rw[HO.out,Bool.and_false];rfl,HBB.out _ HB1.out⟩
 rw[hcount] at WCc
 cases b0
 · skip
   generalize typedB m L s=g at*;clear hcount
   go_enter Tryz.func24,Tryz.ntmps24
   go_upto_region 1 with(fail)
   refine qBV fun W hW=> ?_;refine z9 ?_;intro hBW hsW hC5 hC7 HBW HBB HCM HCS;clear hW hBW hC5 hC7;obtain⟨x0,x1,x2,x3,x4,x5,x6⟩:=HCS.out W (qBO _ _)
   go_wp2_with (first
    |(go_at_call 49
      (with_reducible refine(WCc.out _ ?_).mono ?_)
      · exact HBW.out
      rintro e w1 ⟨rfl,hb1⟩;refine qBG ?_;intro HB1 y0 y1 y2 y3 y4;clear hb1 x0 x1 x2 x3 x4 x5 x6)
    |(go_at_call 50
      (with_reducible refine(JRc.out _ ?_).mono ?_)
      · exact HBB.out _ HB1.out
      rintro e w2 ⟨rfl,hb2⟩;refine jl ?_;intro HB2;obtain⟨x0,x1,x2,x3,x4,x5,x6⟩:=HCS.out w2 HB2.out;clear hb2 y0 y1 y2 y3 y4))
   go_ret;exact⟨by rw[Bool.false_and];rfl,HBB.out _ HB2.out⟩
 obtain⟨hmn,hL⟩:=HB0.out.1 rfl;have hc:checkN m=0:=by
  rcases Decidable.em (checkN m=0) with h|h
  · exact h
  · rw[qD8 h] at hmn;cases hmn
 have hcnt:=hcount;rw[qG0] at hcnt;simp only[Bool.and_eq_true,decide_eq_true_eq,Bool.not_eq_true',decide_eq_false_iff_not] at hcnt;have hnf8:nf≤8:=by have:=hcnt.1.1.2;rw[HNF.out] at this;omega
 have HCn:=qBK hcount;have HLr:=qBK hL;have HCk:=qBK hc;rw[Bool.true_and];clear hcnt hcount hmn hL hc HB0
 cases hhn:s.hn.all handB
 · have HO:=qBK (qH0 (m:=m) (L:=L) hhn)
   have HHN:Hid ((s.hn.any fun h=> !handB h)=true):=by show _=_;rw[qFN,hhn];rfl
   clear hhn;generalize typedB m L s=g at*
   go_enter Tryz.func24,Tryz.ntmps24
   go_upto_region 1 with(fail)
   refine qBV fun W hW=> ?_;refine z9 ?_;intro hBW hsW hC5 hC7 HBW HBB HCM HCS;clear hW hBW hC5 hC7;obtain⟨x0,x1,x2,x3,x4,x5,x6⟩:=HCS.out W (qBO _ _)
   go_upto_region 4 with(first
    |(go_at_call 49
      (with_reducible refine(WCc.out _ ?_).mono ?_)
      · exact HBW.out
      rintro e w1 ⟨rfl,hb1⟩;refine qBG ?_;intro HB1 y0 y1 y2 y3 y4;clear hb1 x0 x1 x2 x3 x4 x5 x6)
    |(go_at_call 50
      (with_reducible refine(JRc.out _ ?_).mono ?_)
      · exact HBB.out _ HB1.out
      rintro e w2 ⟨rfl,hb2⟩;refine jl ?_;intro HB2;obtain⟨x0,x1,x2,x3,x4,x5,x6⟩:=HCS.out w2 HB2.out;clear hb2 y0 y1 y2 y3 y4)
    |(go_at_call 51
      refine(qCz _ _ _ _ _ _ _ _).mono ?_;rintro e w3 ⟨rfl,hb3,hs3,hc3⟩;refine qAH ?_;intro HB3 HC3 HS3;clear hb3 hc3 hs3 x0 x1 x2 x3 x4 x5 x6))
   refine qAA ?_;intro P hP HSz3;rw[hP] at HC3;rw[hP];clear hP HS3;have HHas:Hid (HasAt ⟨P,0,none⟩ s w3):=fun w4 x y hb hx y1 y2=>by
    refine qBH ?_;intro hb2;exact qCk P F O H nf cf no co nh ch _ _ _ _ s x y w4 (HC3.out.below hb HSz3.out) HNO.out HNH.out (HSq.out w4 hb2).2.1 (HSq.out w4 hb2).2.2.1 b2 b3 hx y1 y2
   have HRc:Hid (∀v,Below w3.heap.size w3 v→Sq tysL (·<v.heap.size) v A0 m.recs∧m.recs.length=n0∧n0≤9223372036854775807):=fun v hb=>by
    obtain⟨_,_,_,_,_,ex,⟨A',d',ex1,l1,m1,s1⟩,-⟩:=qCA HM.out (HBB.out _ (HB3.out.trans (hb.mono HB3.out.size)));simp only[List.cons.injEq,and_true] at ex;obtain⟨rfl,-⟩:=ex;simp only[List.cons.injEq,Value.slice.injEq,and_true] at ex1;obtain⟨rfl,e2,rfl⟩:=ex1;exact⟨s1,e2.symm,by unfold maxLen at m1;omega⟩
   refine jE ?_;intro HB33 CHc;have COc:Hid (∀v X,Below w3.heap.size w3 v→C5 X (.slice A0 n0 d0) (.slice A1 n1 d1) (.slice A2 n2 d2) (.slice A3 n3 d3) (.slice A4 n4 d4) v→v.cell? ⟨X+1,0,none⟩=some (.func (.func 90) #[] #[.pointer (some ⟨P,0,none⟩)])→Calls Tryz.prog 54 #[.slice O no co,.func (.func 93) #[] #[.pointer (some ⟨X,0,none⟩),.pointer (some ⟨X+1,0,none⟩)]] v (Tells (s.hp.any fun o=> !objB m s o) v)):=fun v X hb hX hX1=>qCS O no co s.hp (fun o=> !objB m s o) ⟨X,0,none⟩ ⟨X+1,0,none⟩ v HNO.out (HSq.out v (HBB.out _ (HB33.out v hb))).2.1 b2 fun w1 cs x hb1 _ hr=>by
    refine qA3 ?_;intro hb2 r1 r2 r3;exact qB2 X (X+1) ⟨P,0,none⟩ A0 n0 d0 _ _ _ _ m s x w1 cs hr r2 r3 r1 (hX.below hb1 (qBR v _ hX.1)) ((hb1.cell (p:=⟨X+1,0,none⟩) (qBR v _ hX1)).trans hX1) (HHas.out.low hb2)
   refine z7 ?_;intro HS4;rw[HHN.out] at CHc;obtain⟨q0,q1,q2,q3,q4,q5,q6⟩:=HS4.out w3 (qBO _ _);have r5:=cell_regrown q5;have r6:=cell_regrown q6;have HBR:Hid (∀dq osq,Below w3.heap.size w3 (Go.Sort.grow (redrawn w3 dq) osq)):=fun dq osq=>below_regrown w3 dq osq;refine wp_region_quiet_below qR qR ?_
   repeat(quiet_step (first|with_reducible exact Calls.regrown_of (CHc.out _ (HBR.out _ _))))
   refine wpQuiet_nil ?_;intro _ hw';obtain⟨⟨dq,osq⟩,hw''⟩:=hw';subst hw'';have HX2:=qBK (HBR.out dq osq)
   go_wp2_with fail
   go_ret;exact⟨by rw[HO.out];rfl,HBB.out _ (HB33.out _ HX2.out)⟩
 have HHN:Hid ((s.hn.any fun h=> !handB h)=false):=by show _=_;rw[qFN,hhn];rfl
 cases hob:s.hp.all (objB m s)
 · have HO:=qBK (qJU (m:=m) (L:=L) hob)
   have HOB:Hid ((s.hp.any fun o=> !objB m s o)=true):=by show _=_;rw[qFN,hob];rfl
   clear hhn hob;generalize typedB m L s=g at*
   go_enter Tryz.func24,Tryz.ntmps24
   go_upto_region 1 with(fail)
   refine qBV fun W hW=> ?_;refine z9 ?_;intro hBW hsW hC5 hC7 HBW HBB HCM HCS;clear hW hBW hC5 hC7;obtain⟨x0,x1,x2,x3,x4,x5,x6⟩:=HCS.out W (qBO _ _)
   go_upto_region 4 with(first
    |(go_at_call 49
      (with_reducible refine(WCc.out _ ?_).mono ?_)
      · exact HBW.out
      rintro e w1 ⟨rfl,hb1⟩;refine qBG ?_;intro HB1 y0 y1 y2 y3 y4;clear hb1 x0 x1 x2 x3 x4 x5 x6)
    |(go_at_call 50
      (with_reducible refine(JRc.out _ ?_).mono ?_)
      · exact HBB.out _ HB1.out
      rintro e w2 ⟨rfl,hb2⟩;refine jl ?_;intro HB2;obtain⟨x0,x1,x2,x3,x4,x5,x6⟩:=HCS.out w2 HB2.out;clear hb2 y0 y1 y2 y3 y4)
    |(go_at_call 51
      refine(qCz _ _ _ _ _ _ _ _).mono ?_;rintro e w3 ⟨rfl,hb3,hs3,hc3⟩;refine qAH ?_;intro HB3 HC3 HS3;clear hb3 hc3 hs3 x0 x1 x2 x3 x4 x5 x6))
   refine qAA ?_;intro P hP HSz3;rw[hP] at HC3;rw[hP];clear hP HS3;have HHas:Hid (HasAt ⟨P,0,none⟩ s w3):=fun w4 x y hb hx y1 y2=>by
    refine qBH ?_;intro hb2;exact qCk P F O H nf cf no co nh ch _ _ _ _ s x y w4 (HC3.out.below hb HSz3.out) HNO.out HNH.out (HSq.out w4 hb2).2.1 (HSq.out w4 hb2).2.2.1 b2 b3 hx y1 y2
   have HRc:Hid (∀v,Below w3.heap.size w3 v→Sq tysL (·<v.heap.size) v A0 m.recs∧m.recs.length=n0∧n0≤9223372036854775807):=fun v hb=>by
    obtain⟨_,_,_,_,_,ex,⟨A',d',ex1,l1,m1,s1⟩,-⟩:=qCA HM.out (HBB.out _ (HB3.out.trans (hb.mono HB3.out.size)));simp only[List.cons.injEq,and_true] at ex;obtain⟨rfl,-⟩:=ex;simp only[List.cons.injEq,Value.slice.injEq,and_true] at ex1;obtain⟨rfl,e2,rfl⟩:=ex1;exact⟨s1,e2.symm,by unfold maxLen at m1;omega⟩
   refine jE ?_;intro HB33 CHc;have COc:Hid (∀v X,Below w3.heap.size w3 v→C5 X (.slice A0 n0 d0) (.slice A1 n1 d1) (.slice A2 n2 d2) (.slice A3 n3 d3) (.slice A4 n4 d4) v→v.cell? ⟨X+1,0,none⟩=some (.func (.func 90) #[] #[.pointer (some ⟨P,0,none⟩)])→Calls Tryz.prog 54 #[.slice O no co,.func (.func 93) #[] #[.pointer (some ⟨X,0,none⟩),.pointer (some ⟨X+1,0,none⟩)]] v (Tells (s.hp.any fun o=> !objB m s o) v)):=fun v X hb hX hX1=>qCS O no co s.hp (fun o=> !objB m s o) ⟨X,0,none⟩ ⟨X+1,0,none⟩ v HNO.out (HSq.out v (HBB.out _ (HB33.out v hb))).2.1 b2 fun w1 cs x hb1 _ hr=>by
    refine qA3 ?_;intro hb2 r1 r2 r3;exact qB2 X (X+1) ⟨P,0,none⟩ A0 n0 d0 _ _ _ _ m s x w1 cs hr r2 r3 r1 (hX.below hb1 (qBR v _ hX.1)) ((hb1.cell (p:=⟨X+1,0,none⟩) (qBR v _ hX1)).trans hX1) (HHas.out.low hb2)
   refine z7 ?_;intro HS4;rw[HHN.out] at CHc;rw[HOB.out] at COc
   go_region_held3 (fun v=>v.cell? ⟨w.heap.size,0,none⟩=some (.slice A0 n0 d0)∧v.cell? ⟨w.heap.size,1,none⟩=some (.slice A1 n1 d1)∧v.cell? ⟨w.heap.size,2,none⟩=some (.slice A2 n2 d2)∧v.cell? ⟨w.heap.size,3,none⟩=some (.slice A3 n3 d3)∧v.cell? ⟨w.heap.size,4,none⟩=some (.slice A4 n4 d4)∧v.cell? ⟨w.heap.size+1,1,none⟩=some (.slice O no co)∧v.cell? ⟨w.heap.size+1,2,none⟩=some (.slice H nh ch))
    (first|exact HS4.out _ (qBO _ w3).drew|(have hz:=HB5.out;clear hz;first|exact HS4.out _ HB7.out|exact HS4.out _ HB6.out|exact HS4.out _ HB5.out))
    (first
    |(go_at_call 52
      (with_reducible refine(CHc.out _ ?_).mono ?_)
      · exact(qBO _ w3).drew
      rintro e w5 ⟨rfl,hb5⟩;refine qAb ?_;intro HB5;clear hb5)
    |(go_at_call 55
      refine(qCG _ _ _ _ _ _ _).mono ?_;rintro e w6 ⟨rfl,hb6,hs6,hc6,hh6⟩;refine qAE ?_;intro HB6 E6;clear hb6 hs6 hc6 hh6)
    |(go_at_call 54
      (with_reducible refine E6.out.mono ?_)
      rintro e w7 ⟨rfl,hb7⟩;refine qAw ?_;intro HB7;clear hb7))
   go_wp2_with fail
   go_ret;exact⟨by rw[HO.out];rfl,HBB.out _ (HB33.out _ HB7.out)⟩
 have HOB:Hid ((s.hp.any fun o=> !objB m s o)=false):=by show _=_;rw[qFN,hob];rfl
 have HE:=qBK (qFV (L:=L) HCn.out hhn hob);clear hhn hob
 by_cases hfin:s.fin=0
 rotate_left
 · have HO:=qBK (HE.out.trans (qOY hfin))
   have t0:(s.fin != 0)=true:=by simpa using hfin
   rw[HNF.out,HNO.out] at HO;have HV:Hid (∀b:Bool,(decide (nf=0∧no=0∧(s.val=0∨s.fin=1))=b)↔(((nf:Int)==0) && ((no:Int)==0) && (((s.val:Int)==0) || (s.fin==1)))=b):=fun b=>by
    have:decide (nf=0∧no=0∧(s.val=0∨s.fin=1))=(((nf:Int)==0) && ((no:Int)==0) && (((s.val:Int)==0) || (s.fin==1))):=by
     rw[Bool.eq_iff_iff];simp[and_assoc]
    rw[this]
   obtain⟨z0,hz0⟩:∃z,((nf:Int)==0)=z:=⟨_,rfl⟩;obtain⟨z1,hz1⟩:∃z,((no:Int)==0)=z:=⟨_,rfl⟩;obtain⟨z2,hz2⟩:∃z,((s.val:Int)==0)=z:=⟨_,rfl⟩;obtain⟨z3,hz3⟩:∃z,(s.fin==1)=z:=⟨_,rfl⟩;have HO2:Hid (typedB m L s=(z0 && z1 && (z2 || z3))):=by show _=_;rw[HO.out,(HV.out _).2 rfl,hz0,hz1,hz2,hz3]
   clear HO HV HE;generalize typedB m L s=g at*
   go_enter Tryz.func24,Tryz.ntmps24
   go_upto_region 1 with(fail)
   refine qBV fun W hW=> ?_;refine z9 ?_;intro hBW hsW hC5 hC7 HBW HBB HCM HCS;clear hW hBW hC5 hC7;obtain⟨x0,x1,x2,x3,x4,x5,x6⟩:=HCS.out W (qBO _ _)
   go_upto_region 4 with(first
    |(go_at_call 49
      (with_reducible refine(WCc.out _ ?_).mono ?_)
      · exact HBW.out
      rintro e w1 ⟨rfl,hb1⟩;refine qBG ?_;intro HB1 y0 y1 y2 y3 y4;clear hb1 x0 x1 x2 x3 x4 x5 x6)
    |(go_at_call 50
      (with_reducible refine(JRc.out _ ?_).mono ?_)
      · exact HBB.out _ HB1.out
      rintro e w2 ⟨rfl,hb2⟩;refine jl ?_;intro HB2;obtain⟨x0,x1,x2,x3,x4,x5,x6⟩:=HCS.out w2 HB2.out;clear hb2 y0 y1 y2 y3 y4)
    |(go_at_call 51
      refine(qCz _ _ _ _ _ _ _ _).mono ?_;rintro e w3 ⟨rfl,hb3,hs3,hc3⟩;refine qAH ?_;intro HB3 HC3 HS3;clear hb3 hc3 hs3 x0 x1 x2 x3 x4 x5 x6))
   refine qAA ?_;intro P hP HSz3;rw[hP] at HC3;rw[hP];clear hP HS3;have HHas:Hid (HasAt ⟨P,0,none⟩ s w3):=fun w4 x y hb hx y1 y2=>by
    refine qBH ?_;intro hb2;exact qCk P F O H nf cf no co nh ch _ _ _ _ s x y w4 (HC3.out.below hb HSz3.out) HNO.out HNH.out (HSq.out w4 hb2).2.1 (HSq.out w4 hb2).2.2.1 b2 b3 hx y1 y2
   have HRc:Hid (∀v,Below w3.heap.size w3 v→Sq tysL (·<v.heap.size) v A0 m.recs∧m.recs.length=n0∧n0≤9223372036854775807):=fun v hb=>by
    obtain⟨_,_,_,_,_,ex,⟨A',d',ex1,l1,m1,s1⟩,-⟩:=qCA HM.out (HBB.out _ (HB3.out.trans (hb.mono HB3.out.size)));simp only[List.cons.injEq,and_true] at ex;obtain⟨rfl,-⟩:=ex;simp only[List.cons.injEq,Value.slice.injEq,and_true] at ex1;obtain⟨rfl,e2,rfl⟩:=ex1;exact⟨s1,e2.symm,by unfold maxLen at m1;omega⟩
   refine jE ?_;intro HB33 CHc;have COc:Hid (∀v X,Below w3.heap.size w3 v→C5 X (.slice A0 n0 d0) (.slice A1 n1 d1) (.slice A2 n2 d2) (.slice A3 n3 d3) (.slice A4 n4 d4) v→v.cell? ⟨X+1,0,none⟩=some (.func (.func 90) #[] #[.pointer (some ⟨P,0,none⟩)])→Calls Tryz.prog 54 #[.slice O no co,.func (.func 93) #[] #[.pointer (some ⟨X,0,none⟩),.pointer (some ⟨X+1,0,none⟩)]] v (Tells (s.hp.any fun o=> !objB m s o) v)):=fun v X hb hX hX1=>qCS O no co s.hp (fun o=> !objB m s o) ⟨X,0,none⟩ ⟨X+1,0,none⟩ v HNO.out (HSq.out v (HBB.out _ (HB33.out v hb))).2.1 b2 fun w1 cs x hb1 _ hr=>by
    refine qA3 ?_;intro hb2 r1 r2 r3;exact qB2 X (X+1) ⟨P,0,none⟩ A0 n0 d0 _ _ _ _ m s x w1 cs hr r2 r3 r1 (hX.below hb1 (qBR v _ hX.1)) ((hb1.cell (p:=⟨X+1,0,none⟩) (qBR v _ hX1)).trans hX1) (HHas.out.low hb2)
   refine z7 ?_;intro HS4;rw[HHN.out] at CHc;rw[HOB.out] at COc
   go_region_held3 (fun v=>v.cell? ⟨w.heap.size,0,none⟩=some (.slice A0 n0 d0)∧v.cell? ⟨w.heap.size,1,none⟩=some (.slice A1 n1 d1)∧v.cell? ⟨w.heap.size,2,none⟩=some (.slice A2 n2 d2)∧v.cell? ⟨w.heap.size,3,none⟩=some (.slice A3 n3 d3)∧v.cell? ⟨w.heap.size,4,none⟩=some (.slice A4 n4 d4)∧v.cell? ⟨w.heap.size+1,1,none⟩=some (.slice O no co)∧v.cell? ⟨w.heap.size+1,2,none⟩=some (.slice H nh ch))
    (first|exact HS4.out _ (qBO _ w3).drew|(have hz:=HB5.out;clear hz;first|exact HS4.out _ HB7.out|exact HS4.out _ HB6.out|exact HS4.out _ HB5.out))
    (first
    |(go_at_call 52
      (with_reducible refine(CHc.out _ ?_).mono ?_)
      · exact(qBO _ w3).drew
      rintro e w5 ⟨rfl,hb5⟩;refine qAb ?_;intro HB5;clear hb5)
    |(go_at_call 55
      refine(qCG _ _ _ _ _ _ _).mono ?_;rintro e w6 ⟨rfl,hb6,hs6,hc6,hh6⟩;refine qAE ?_;intro HB6 E6;clear hb6 hs6 hc6 hh6)
    |(go_at_call 54
      (with_reducible refine E6.out.mono ?_)
      rintro e w7 ⟨rfl,hb7⟩;refine qAw ?_;intro HB7;clear hb7))
   go_upto_region 6 with(fail)
   obtain⟨x0,x1,x2,x3,x4,x5,x6⟩:=HCS.out w7 (HB33.out _ HB7.out);have HBF:=qBK (HBB.out _ (HB33.out _ HB7.out))
   cases z0
   case' true=>cases z1
   case' true.true=>cases z2
   case' true.true.false=>cases z3
   all_goals
    go_wp2_with fail
    go_ret;exact⟨by rw[HO2.out];rfl,HBF.out⟩
 have t0:(s.fin != 0)=false:=by simpa using hfin
 by_cases hval:s.val=0
 rotate_left
 · have HO:=qBK (HE.out.trans (qOX hfin hval))
   have t1:((s.val:Int) != 0)=true:=by simp;omega
   clear HE hval hfin;exact qA
 have t1:((s.val:Int) != 0)=false:=by simp;omega
 by_cases hnf0:nf=0
 · have HO:=qBK (HE.out.trans (qME hfin (qBY (by rw[HNF.out];exact hnf0))))
   have t2:((nf:Int)==0)=true:=by simp;omega
   clear HE hval hfin hnf0;exact qA
 have t2:((nf:Int)==0)=false:=by simp;omega
 obtain⟨f,hf⟩:∃f,s.fr[0]? =some f:=⟨s.fr[0]'(by rw[HNF.out];omega),List.getElem?_eq_getElem _⟩;obtain⟨aF,csf,rfl,hab,hcf,hRf⟩:=(HSq.out w (qBO _ _)).1.at hf;obtain⟨P0,e0,P1,e1,rfl,-⟩:=qDS hRf;have g0:=hcf 0 _ rfl;rw[show 0*frL.k+0=0 from rfl,show aF.add 0=aF by simp[Addr.add]] at g0;have HG0:=qBK g0;have p0:(0:Int)<(nf:Int):=by omega
 clear g0 hRf hcf hab
 by_cases hfn:f.fn=0
 rotate_left
 · have HO:=qBK (HE.out.trans (qKM hfin hf hfn))
   have t3:(f.fn != 0)=true:=by simpa using hfn
   clear HE hval hfin hnf0 hf hfn;generalize typedB m L s=g at*
   go_enter Tryz.func24,Tryz.ntmps24
   go_upto_region 1 with(fail)
   refine qBV fun W hW=> ?_;refine jD ?_;intro hBW hsW hC5 hC7 HBW HBB HCM;refine qAd ?_;intro HCS;clear hW hBW hC5 hC7;obtain⟨x0,x1,x2,x3,x4,x5,x6⟩:=HCS.out W (qBO _ _)
   go_upto_region 4 with(first
    |(go_at_call 49
      (with_reducible refine(WCc.out _ ?_).mono ?_)
      · exact HBW.out
      rintro e w1 ⟨rfl,hb1⟩;refine qBG ?_;intro HB1 y0 y1 y2 y3 y4;clear hb1 x0 x1 x2 x3 x4 x5 x6)
    |(go_at_call 50
      (with_reducible refine(JRc.out _ ?_).mono ?_)
      · exact HBB.out _ HB1.out
      rintro e w2 ⟨rfl,hb2⟩;refine jl ?_;intro HB2;obtain⟨x0,x1,x2,x3,x4,x5,x6⟩:=HCS.out w2 HB2.out;clear hb2 y0 y1 y2 y3 y4)
    |(go_at_call 51
      refine(qCz _ _ _ _ _ _ _ _).mono ?_;rintro e w3 ⟨rfl,hb3,hs3,hc3⟩;refine qAH ?_;intro HB3 HC3 HS3;clear hb3 hc3 hs3 x0 x1 x2 x3 x4 x5 x6))
   refine qAA ?_;intro P hP HSz3;rw[hP] at HC3;rw[hP];clear hP HS3;have HHas:Hid (HasAt ⟨P,0,none⟩ s w3):=fun w4 x y hb hx y1 y2=>by
    refine qBH ?_;intro hb2;exact qCk P (some aF) O H nf cf no co nh ch _ _ _ _ s x y w4 (HC3.out.below hb HSz3.out) HNO.out HNH.out (HSq.out w4 hb2).2.1 (HSq.out w4 hb2).2.2.1 b2 b3 hx y1 y2
   have HRc:Hid (∀v,Below w3.heap.size w3 v→Sq tysL (·<v.heap.size) v A0 m.recs∧m.recs.length=n0∧n0≤9223372036854775807):=fun v hb=>by
    obtain⟨_,_,_,_,_,ex,⟨A',d',ex1,l1,m1,s1⟩,-⟩:=qCA HM.out (HBB.out _ (HB3.out.trans (hb.mono HB3.out.size)));simp only[List.cons.injEq,and_true] at ex;obtain⟨rfl,-⟩:=ex;simp only[List.cons.injEq,Value.slice.injEq,and_true] at ex1;obtain⟨rfl,e2,rfl⟩:=ex1;exact⟨s1,e2.symm,by unfold maxLen at m1;omega⟩
   refine jE ?_;intro HB33 CHc;have COc:Hid (∀v X,Below w3.heap.size w3 v→C5 X (.slice A0 n0 d0) (.slice A1 n1 d1) (.slice A2 n2 d2) (.slice A3 n3 d3) (.slice A4 n4 d4) v→v.cell? ⟨X+1,0,none⟩=some (.func (.func 90) #[] #[.pointer (some ⟨P,0,none⟩)])→Calls Tryz.prog 54 #[.slice O no co,.func (.func 93) #[] #[.pointer (some ⟨X,0,none⟩),.pointer (some ⟨X+1,0,none⟩)]] v (Tells (s.hp.any fun o=> !objB m s o) v)):=fun v X hb hX hX1=>qCS O no co s.hp (fun o=> !objB m s o) ⟨X,0,none⟩ ⟨X+1,0,none⟩ v HNO.out (HSq.out v (HBB.out _ (HB33.out v hb))).2.1 b2 fun w1 cs x hb1 _ hr=>by
    refine qA3 ?_;intro hb2 r1 r2 r3;exact qB2 X (X+1) ⟨P,0,none⟩ A0 n0 d0 _ _ _ _ m s x w1 cs hr r2 r3 r1 (hX.below hb1 (qBR v _ hX.1)) ((hb1.cell (p:=⟨X+1,0,none⟩) (qBR v _ hX1)).trans hX1) (HHas.out.low hb2)
   refine z7 ?_;intro HS4;rw[HHN.out] at CHc;rw[HOB.out] at COc
   go_region_held3 (fun v=>v.cell? ⟨w.heap.size,0,none⟩=some (.slice A0 n0 d0)∧v.cell? ⟨w.heap.size,1,none⟩=some (.slice A1 n1 d1)∧v.cell? ⟨w.heap.size,2,none⟩=some (.slice A2 n2 d2)∧v.cell? ⟨w.heap.size,3,none⟩=some (.slice A3 n3 d3)∧v.cell? ⟨w.heap.size,4,none⟩=some (.slice A4 n4 d4)∧v.cell? ⟨w.heap.size+1,1,none⟩=some (.slice O no co)∧v.cell? ⟨w.heap.size+1,2,none⟩=some (.slice H nh ch))
    (first|exact HS4.out _ (qBO _ w3).drew|(have hz:=HB5.out;clear hz;first|exact HS4.out _ HB7.out|exact HS4.out _ HB6.out|exact HS4.out _ HB5.out))
    (first
    |(go_at_call 52
      (with_reducible refine(CHc.out _ ?_).mono ?_)
      · exact(qBO _ w3).drew
      rintro e w5 ⟨rfl,hb5⟩;refine qAb ?_;intro HB5;clear hb5)
    |(go_at_call 55
      refine(qCG _ _ _ _ _ _ _).mono ?_;rintro e w6 ⟨rfl,hb6,hs6,hc6,hh6⟩;refine qAE ?_;intro HB6 E6;clear hb6 hs6 hc6 hh6)
    |(go_at_call 54
      (with_reducible refine E6.out.mono ?_)
      rintro e w7 ⟨rfl,hb7⟩;refine qAw ?_;intro HB7;clear hb7))
   go_upto_region 6 with(fail)
   obtain⟨x0,x1,x2,x3,x4,x5,x6⟩:=HCS.out w7 (HB33.out _ HB7.out);have HBF:=qBK (HBB.out _ (HB33.out _ HB7.out));have g0:=qBt HG0.out HBF.out
   go_wp2_with fail
   go_ret;exact⟨by rw[HO.out];rfl,HBF.out⟩
 have t3:(f.fn != 0)=false:=by simpa using hfn
 have HO:=qBK (HE.out.trans (qK9 hfin hval hf hfn));clear HE hval hfin hnf0 hf hfn;generalize typedB m L s=g at*
 go_enter Tryz.func24,Tryz.ntmps24
 go_upto_region 1 with(fail)
 refine qBV fun W hW=> ?_;refine jD ?_;intro hBW hsW hC5 hC7 HBW HBB HCM;refine qAd ?_;intro HCS;clear hW hBW hC5 hC7;obtain⟨x0,x1,x2,x3,x4,x5,x6⟩:=HCS.out W (qBO _ _)
 go_upto_region 4 with(first
  |(go_at_call 49
    (with_reducible refine(WCc.out _ ?_).mono ?_)
    · exact HBW.out
    rintro e w1 ⟨rfl,hb1⟩;refine qBG ?_;intro HB1 y0 y1 y2 y3 y4;clear hb1 x0 x1 x2 x3 x4 x5 x6)
  |(go_at_call 50
    (with_reducible refine(JRc.out _ ?_).mono ?_)
    · exact HBB.out _ HB1.out
    rintro e w2 ⟨rfl,hb2⟩;refine jl ?_;intro HB2;obtain⟨x0,x1,x2,x3,x4,x5,x6⟩:=HCS.out w2 HB2.out;clear hb2 y0 y1 y2 y3 y4)
  |(go_at_call 51
    refine(qCz _ _ _ _ _ _ _ _).mono ?_;rintro e w3 ⟨rfl,hb3,hs3,hc3⟩;refine qAH ?_;intro HB3 HC3 HS3;clear hb3 hc3 hs3 x0 x1 x2 x3 x4 x5 x6))
 refine qAA ?_;intro P hP HSz3;rw[hP] at HC3;rw[hP];clear hP HS3;have HHas:Hid (HasAt ⟨P,0,none⟩ s w3):=fun w4 x y hb hx y1 y2=>by
  refine qBH ?_;intro hb2;exact qCk P (some aF) O H nf cf no co nh ch _ _ _ _ s x y w4 (HC3.out.below hb HSz3.out) HNO.out HNH.out (HSq.out w4 hb2).2.1 (HSq.out w4 hb2).2.2.1 b2 b3 hx y1 y2
 have HRc:Hid (∀v,Below w3.heap.size w3 v→Sq tysL (·<v.heap.size) v A0 m.recs∧m.recs.length=n0∧n0≤9223372036854775807):=fun v hb=>by
  obtain⟨_,_,_,_,_,ex,⟨A',d',ex1,l1,m1,s1⟩,-⟩:=qCA HM.out (HBB.out _ (HB3.out.trans (hb.mono HB3.out.size)));simp only[List.cons.injEq,and_true] at ex;obtain⟨rfl,-⟩:=ex;simp only[List.cons.injEq,Value.slice.injEq,and_true] at ex1;obtain⟨rfl,e2,rfl⟩:=ex1;exact⟨s1,e2.symm,by unfold maxLen at m1;omega⟩
 refine jE ?_;intro HB33 CHc;have COc:Hid (∀v X,Below w3.heap.size w3 v→C5 X (.slice A0 n0 d0) (.slice A1 n1 d1) (.slice A2 n2 d2) (.slice A3 n3 d3) (.slice A4 n4 d4) v→v.cell? ⟨X+1,0,none⟩=some (.func (.func 90) #[] #[.pointer (some ⟨P,0,none⟩)])→Calls Tryz.prog 54 #[.slice O no co,.func (.func 93) #[] #[.pointer (some ⟨X,0,none⟩),.pointer (some ⟨X+1,0,none⟩)]] v (Tells (s.hp.any fun o=> !objB m s o) v)):=fun v X hb hX hX1=>qCS O no co s.hp (fun o=> !objB m s o) ⟨X,0,none⟩ ⟨X+1,0,none⟩ v HNO.out (HSq.out v (HBB.out _ (HB33.out v hb))).2.1 b2 fun w1 cs x hb1 _ hr=>by
  refine qA3 ?_;intro hb2 r1 r2 r3;exact qB2 X (X+1) ⟨P,0,none⟩ A0 n0 d0 _ _ _ _ m s x w1 cs hr r2 r3 r1 (hX.below hb1 (qBR v _ hX.1)) ((hb1.cell (p:=⟨X+1,0,none⟩) (qBR v _ hX1)).trans hX1) (HHas.out.low hb2)
 refine z7 ?_;intro HS4;rw[HHN.out] at CHc;rw[HOB.out] at COc
 go_region_held3 (fun v=>v.cell? ⟨w.heap.size,0,none⟩=some (.slice A0 n0 d0)∧v.cell? ⟨w.heap.size,1,none⟩=some (.slice A1 n1 d1)∧v.cell? ⟨w.heap.size,2,none⟩=some (.slice A2 n2 d2)∧v.cell? ⟨w.heap.size,3,none⟩=some (.slice A3 n3 d3)∧v.cell? ⟨w.heap.size,4,none⟩=some (.slice A4 n4 d4)∧v.cell? ⟨w.heap.size+1,1,none⟩=some (.slice O no co)∧v.cell? ⟨w.heap.size+1,2,none⟩=some (.slice H nh ch))
  (first|exact HS4.out _ (qBO _ w3).drew|(have hz:=HB5.out;clear hz;first|exact HS4.out _ HB7.out|exact HS4.out _ HB6.out|exact HS4.out _ HB5.out))
  (first
  |(go_at_call 52
    (with_reducible refine(CHc.out _ ?_).mono ?_)
    · exact(qBO _ w3).drew
    rintro e w5 ⟨rfl,hb5⟩;refine qAb ?_;intro HB5;clear hb5)
  |(go_at_call 55
    refine(qCG _ _ _ _ _ _ _).mono ?_;rintro e w6 ⟨rfl,hb6,hs6,hc6,hh6⟩;refine qAE ?_;intro HB6 E6;clear hb6 hs6 hc6 hh6)
  |(go_at_call 54
    (with_reducible refine E6.out.mono ?_)
    rintro e w7 ⟨rfl,hb7⟩;refine qAw ?_;intro HB7;clear hb7))
 go_upto_region 6 with(fail)
 obtain⟨x0,x1,x2,x3,x4,x5,x6⟩:=HCS.out w7 (HB33.out _ HB7.out);have HBF:=qBK (HBB.out _ (HB33.out _ HB7.out));have g0:=qBt HG0.out HBF.out;obtain⟨y0,y1,y2,y3,y4⟩:=HCM.out w7 (HB33.out _ HB7.out)
 go_upto_region 12 with(first
  |(go_at_call 56
    refine(qFQ _ _ _ _ _ _ _ _ _ _ _ _ _).mono ?_;rintro e w8 ⟨rfl,hb8,hs8,hM8,hL8,hF8,hH8⟩;obtain⟨X,hX⟩:∃X,w7.heap.size=X:=⟨_,rfl⟩;rw[hX] at hs8 hM8 hL8 hF8 hH8;rw[hX];have HB8:=qBK (HB7.out.trans (hb8.mono HB7.out.size));have HM8:=qBK hM8;have HL8:=qBK hL8;have HF8:=qBK hF8;have HH8:=qBK hH8;have HS8:=qBK hs8;clear x0 x1 x2 x3 x4 x5 x6 y0 y1 y2 y3 y4 g0;obtain⟨x0,x1,x2,x3,x4,x5,x6⟩:=HCS.out w8 (HB33.out _ HB8.out);clear hb8 hs8 hM8 hL8 hF8 hH8 hX))
 clear x0 x1 x2 x3 x4 x5 x6
 go_loopw [80] (fun i wr=>∃k:Nat,k≤nf∧i= .int .i64 (k:Nat)∧Below w8.heap.size w8 wr∧∀j,j<k→frameB m L s j=true) (fun i _=>nf-(intOf i).toNat)
 case atStart=>exact⟨0,qBU _,rfl,qBO _ _,fun j h=>absurd h (by omega)⟩
 case round=>
  obtain⟨wp,eW⟩:∃wp,wp=wr:=⟨_,rfl⟩;subst eW;obtain⟨k,hk,rfl,hbp,hall⟩:=hrel;have HBp:=qBK hbp;have HAll:=qBK hall;have hsp:=hbp.size;have HB3p:=qBK (HB8.out.trans (hbp.mono HB8.out.size));have HBwp:=qBK (HBB.out _ (HB33.out _ HB3p.out));clear hbp hall
  by_cases hlt:k<nf
  · have WR:Hid (Calls Tryz.prog 95 #[.int .i64 (k:Int),.pointer (some ⟨X+2,0,none⟩),.pointer (some ⟨X+1,0,none⟩),.pointer (some ⟨X,0,none⟩),.pointer (some ⟨X+3,0,none⟩)] wp (Tells (!frameB m L s k) wp)):=by
     have hlow:∀{q:Addr} {u:Value},w8.cell? q=some u→wp.cell? q=some u:=fun {q u} h=>qBt h HBp.out;exact qFD (X+2) (X+1) X (X+3) ⟨P,0,none⟩ A0 A1 A2 A3 A4 D (some aF) n0 n1 n2 n3 n4 d0 d1 d2 d3 d4 n c nf cf m L s k wp (qCA HM.out HBwp.out) HCk.out HLr.out HL.out (HSq.out wp HBwp.out).2.2.2 hn HNF.out (HSq.out wp HBwp.out).1 (by omega) hlt ⟨hlow HM8.out.1,hlow HM8.out.2.1,hlow HM8.out.2.2.1,hlow HM8.out.2.2.2.1,hlow HM8.out.2.2.2.2⟩ (hlow HL8.out) (hlow HF8.out) (hlow HH8.out) (HHas.out.low HB3p.out)
    have k2:(0:Int)≤(k:Int):=by omega
    have k3:(k:Int)<(nf:Int):=by omega
    cases hfk:frameB m L s k
    · rw[hfk] at WR
      have HFk:=qBK hfk;clear hfk
      go_wp2_with (first
       |(go_at_call 95
         refine WR.out.mono ?_;rintro e w9 ⟨rfl,hb9⟩;have HB9:=qBK (HBwp.out.trans (hb9.mono HBwp.out.size));clear hb9))
      go_ret;exact⟨by rw[HO.out,qL6 (by rw[HNF.out];exact hlt) HFk.out];rfl,HB9.out⟩
    · rw[hfk] at WR
      have HFk:=qBK hfk;clear hfk
      go_wp2_with (first
       |(go_at_call 95
         refine WR.out.mono ?_;rintro e w9 ⟨rfl,hb9⟩;have HB9:=qBK (HBp.out.trans (hb9.mono hsp));clear hb9))
      refine⟨⟨k+1,by omega,by simp,HB9.out,fun j hj=> ?_⟩,by simp[intOf];omega⟩
      by_cases e:j=k
      · subst e
        exact HFk.out
      · exact HAll.out j (by omega)
  · obtain rfl:k=nf:=by omega
    go_wp2_with fail
    go_ret;exact⟨by rw[HO.out,qF2 fun j hj=>HAll.out j (by rw[←HNF.out];exact hj)];rfl,HBwp.out⟩
end Go.Proofs.YtgdbhanhmenmfaaGreat
