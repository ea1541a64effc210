/-
Pwf Plrec Plfn Plimp Plnum Plstr Pjn En Bn Bks Fp
-/
import Derived.Test.YtgdbhanhmenmfaaGreatQ01
import Derived.Test.YtgdbhanhmenmfaaGreatQ02
import Derived.Test.YtgdbhanhmenmfaaGreatQ03
import Derived.Test.YtgdbhanhmenmfaaGreatQ05
import Derived.Test.YtgdbhanhmenmfaaGreatQ08
import Derived.Deep.RegionHeld3
import Derived.Deep.RegionLaw
set_option linter.unusedSimpArgs false
set_option linter.unusedVariables false
set_option maxRecDepth 100000
set_option maxHeartbeats 4000000
namespace Go.Proofs.YtgdbhanhmenmfaaGreat
open Go.RowKit
variable {g ty:Nat}{v:Value}{w:World}
theorem qMy (w:World) (A0 A1 A2 A3:Option Addr) (c0 c1 c2 c3:Nat) (x0 x1 x2 x3:List Nat) (l0:x0.length≤c0) (l1:x1.length≤c1) (l2:x2.length≤c2) (l3:x3.length≤c3)
 (h0:Byt (·<w.heap.size) w A0 x0) (h1:Byt (·<w.heap.size) w A1 x1) (h2:Byt (·<w.heap.size) w A2 x2) (h3:Byt (·<w.heap.size) w A3 x3):
 Rws (·<(w.alloc (.cells #[.slice A0 x0.length c0,.slice A1 x1.length c1,.slice A2 x2.length c2,.slice A3 x3.length c3] 76)).heap.size)
  (w.alloc (.cells #[.slice A0 x0.length c0,.slice A1 x1.length c1,.slice A2 x2.length c2,.slice A3 x3.length c3] 76)) (some ⟨w.heap.size,0,none⟩) [x0,x1,x2,x3]:=fun _=>by
 refine⟨_,rfl,by simp,fun j hj=> ?_⟩;refine qAi ?_;intro hk e;rw[e,World.cell?_alloc_mark]
 match j,hj with
 |0,_=>exact⟨A0,c0,rfl,l0,(h0.keep (hk _)).wide fun b hb=>by simp;omega⟩
 |1,_=>exact⟨A1,c1,rfl,l1,(h1.keep (hk _)).wide fun b hb=>by simp;omega⟩
 |2,_=>exact⟨A2,c2,rfl,l2,(h2.keep (hk _)).wide fun b hb=>by simp;omega⟩
 |3,_=>exact⟨A3,c3,rfl,l3,(h3.keep (hk _)).wide fun b hb=>by simp;omega⟩
 |j+4,hj=>exact absurd hj (by simp)
def Yb (w:World) (A:Option Addr) (c:Nat) (xs:List Nat):Prop:=xs.length≤c∧Byt (·<w.heap.size) w A xs
theorem Yb.below {w':World} {A:Option Addr} {c:Nat} {xs:List Nat} (h:Yb w A c xs) (hb:Below w.heap.size w w'):Yb w' A c xs:=
 ⟨h.1,(h.2.below hb (qBL _)).wide fun b h1=>qBN h1 hb.size⟩
theorem Yb.of {base n:Nat} {xs:List Nat} (h:w.ownsRow base 5 1 v n (Bs xs)):∃A c,v= .slice A xs.length c∧Yb w A c xs:=by
 obtain⟨A,c,rfl,e,h1,-,h2⟩:=qBu h;subst e;exact⟨A,c,rfl,h1,h2.wide fun b hb=>hb.2⟩
theorem qFJ (cs:List Value) (x:Fn) (r:Int) (w:World) (hr:r≤8) (hx:fnOk r x=true) (h:fnL.R (·<w.heap.size) w cs x):Calls Tryz.prog 116 #[vAgg cs] w (Puts (fnB x) w):=by
 obtain⟨a1,a2,a3,a4,a5,a6,a7,a8⟩:=qDx hx;have hB1:=qDC hr (by omega) a5;have hB2:=qFY hr a6;have hB3:=qDC hr (by omega) a7;have hB4:=qCo iB x.code 5 (fun t _=>qKB t) qj;clear a5 a6 a7 a8 hx hr;obtain⟨p0,p1,p2,rfl,i1,i2,⟨A4,d4,e4,l4,m4,s4⟩,⟨A5,d5,e5,l5,m5,s5⟩,⟨A6,d6,e6,l6,m6,s6⟩⟩:=h;simp only[List.cons.injEq,and_true] at e4 e5 e6;subst e4 e5 e6
 show Calls Tryz.prog 116 #[.agg #[.slice A4 x.args.length d4,.int .i64 x.ret.1,.int .i64 x.ret.2,.slice A5 x.locs.length d5,.slice A6 x.code.length d6]] w (Puts (fnB x) w)
 obtain⟨n,hn⟩:∃n,x.args.length=n:=⟨_,rfl⟩;obtain⟨m,hm⟩:∃m,x.locs.length=m:=⟨_,rfl⟩;obtain⟨o,ho⟩:∃o,x.code.length=o:=⟨_,rfl⟩;obtain⟨y0,hy0⟩:∃y,lB tB x.args=y:=⟨_,rfl⟩;obtain⟨y1,hy1⟩:∃y,tB x.ret=y:=⟨_,rfl⟩;obtain⟨y2,hy2⟩:∃y,lB tB x.locs=y:=⟨_,rfl⟩;obtain⟨y3,hy3⟩:∃y,lB iB x.code=y:=⟨_,rfl⟩;have P0:Hid (∀w1,Below w.heap.size w w1→Calls Tryz.prog 114 #[.slice A4 n d4] w1 (Puts y0 w1)):=fun w1 hb=>by
  rw[←hy0];exact qCt A4 n d4 x.args w1 hn ((s4.keep fun b hb1=>hb.block b hb1).wide fun b hb1=>qBN hb1 hb.size) (by omega) (by omega)
 have P1:Hid (∀w1,Calls Tryz.prog 180 #[.agg #[.int .i64 x.ret.1,.int .i64 x.ret.2]] w1 (Puts y1 w1)):=fun w1=>by
  rw[←hy1];exact kput x.ret.1 x.ret.2 w1 i1 i2
 have P2:Hid (∀w1,Below w.heap.size w w1→Calls Tryz.prog 114 #[.slice A5 m d5] w1 (Puts y2 w1)):=fun w1 hb=>by
  rw[←hy2];exact qCt A5 m d5 x.locs w1 hm ((s5.keep fun b hb1=>hb.block b hb1).wide fun b hb1=>qBN hb1 hb.size) (by omega) (by omega)
 have P3:Hid (∀w1,Below w.heap.size w w1→Calls Tryz.prog 182 #[.slice A6 o d6,.func (.func 183) #[] #[]] w1 (Puts y3 w1)):=fun w1 hb=>by
  rw[←hy3];exact qIO A6 o d6 x.code w1 ho ((s6.keep fun b hb1=>hb.block b hb1).wide fun b hb1=>qBN hb1 hb.size) (by omega) (by omega) (put_ins x.code)
 have HI:Hid (fnB x=[y0,y1,y2,y3].flatten):=by show fnB x=_;rw[←hy0,←hy1,←hy2,←hy3];simp[fnB]
 rw[hy0] at hB1;rw[hy1] at hB2;rw[hy2] at hB3;rw[hy3,ho] at hB4;rw[hn,hm,ho];rw[hn] at a1 a2;rw[hm] at a2;rw[ho] at a3 a4;clear hy0 hy1 hy2 hy3 hn hm ho s4 l4 m4 s5 l5 m5 s6 l6 m6 i1 i2;have HZ:Hid ([y0,y1,y2,y3].flatten.length≤140737488355328):=by show[y0,y1,y2,y3].flatten.length≤_;simp;omega
 obtain⟨b,hb⟩:∃b,fnB x=b:=⟨_,rfl⟩;rw[hb] at HI⊢;clear hb;generalize x.ret.1=k1 at*;generalize x.ret.2=k2 at*
 go_enter Tryz.func116,Tryz.ntmps116
 go_wp2_with fail
 refine qBV fun W hW=> ?_;have hC:C5 w.heap.size (.slice A4 n d4) (.int .i64 k1) (.int .i64 k2) (.slice A5 m d5) (.slice A6 o d6) W:=by rw[hW];simp[C5,go_sem]
 refine jp ?_;intro HB0;have hs:w.heap.size<W.heap.size:=by rw[hW];simp
 clear hW;have HC0:=qBK hC;obtain⟨z0,z1,z2,z3,z4⟩:=hC
 go_region_held3 (fun w'=>w'.cell? ⟨w.heap.size,0,none⟩=some (.slice A4 n d4)∧w'.cell? ⟨w.heap.size,1,none⟩=some (.int .i64 k1)∧w'.cell? ⟨w.heap.size,2,none⟩=some (.int .i64 k2)∧w'.cell? ⟨w.heap.size,3,none⟩=some (.slice A5 m d5)∧w'.cell? ⟨w.heap.size,4,none⟩=some (.slice A6 o d6))
  (first|exact HC5.out|exact HC4.out|exact HC4.out.below (Below.alloc (qBO _ _) (qBL _) _) HS4.out|exact HC3.out|exact HC2.out|exact HC1.out|exact HC0.out)
  (first
    |(go_at_call 182
      refine(P3.out _ HB3.out).mono ?_;rintro e w4 ⟨u4,rfl,hown4,hb4⟩;obtain⟨B3,f3,rfl,hy3⟩:=Yb.of hown4;have Y0:=qBK (Y0c.out.below hb4);have Y1:=qBK (Y1b.out.below hb4);have Y2:=qBK (Y2a.out.below hb4);have Y3:=qBK hy3;refine qAt ?_;intro HB4;have HC4:=qBK (HC3.out.below hb4 HS3.out);have HS4:=qBK (qBN HS3.out hb4.size);clear hown4 hb4 hy3)
    |(go_at_call 114
      (with_reducible refine(P2.out _ ?_).mono ?_)
      · exact HB2.out
      rintro e w3 ⟨u3,rfl,hown3,hb3⟩;obtain⟨B2,f2,rfl,hy2⟩:=Yb.of hown3;refine qAj ?_;intro Y0c Y1b Y2a HB3 HC3 HS3;clear hown3 hb3 hy2)
    |(go_at_call 180
      refine(P1.out _).mono ?_;rintro e w2 ⟨u2,rfl,hown2,hb2⟩;obtain⟨B1,f1,rfl,hy1⟩:=Yb.of hown2;have Y0b:=qBK (Y0a.out.below hb2);have Y1a:=qBK hy1;refine jl ?_;intro HB2;have HC2:=qBK (HC1.out.below hb2 HS1.out);have HS2:=qBK (qBN HS1.out hb2.size);clear hown2 hb2 hy1)
    |(go_at_call 114
      (with_reducible refine(P0.out _ ?_).mono ?_)
      · exact HB0.out.drew
      rintro e w1 ⟨u1,rfl,hown1,hb1⟩;obtain⟨B0,f0,rfl,hy0⟩:=Yb.of hown1;have Y0a:=qBK hy0;have HB1:=qBK (HB0.out.drew.trans (hb1.mono HB0.out.size));have HC1:=qBK (C5.below (w:=W.drew) HC0.out hb1 hs);have HS1:=qBK (qBN hs hb1.size);clear hown1 hb1 hy0)
    |(go_at_call 181
      refine(qKS _ _ _ [y0,y1,y2,y3] _ rfl (qMy w4 B0 B1 B2 B3 f0 f1 f2 f3 y0 y1 y2 y3 Y0.out.1 Y1.out.1 Y2.out.1 Y3.out.1 Y0.out.2 Y1.out.2 Y2.out.2 Y3.out.2) HZ.out (by simp)).mono ?_;rintro e w5 ⟨u5,rfl,hown5,hb5⟩;have HO5:=qBK hown5;have Hb5:=qBK hb5;have HC5:=qBK ((HC4.out.below (Below.alloc (qBO _ _) (qBL _) _) HS4.out).below hb5 (by simp;have:=HS4.out;omega));clear hown5 hb5))
 go_wp2_with fail
 go_ret;refine⟨_,rfl,?_,(HB4.out.alloc HB4.out.size _).trans (Hb5.out.mono (by simp;have:=HB4.out.size;omega))⟩;rw[HI.out];exact qC5 HO5.out (by simp;have:=HB4.out.size;omega)
theorem qIM (A:Option Addr) (n c:Nat) (xs:List (List Typ)) (w:World) (hl:xs.length=n) (h:Sq tysL (·<w.heap.size) w A xs) (hn2:n≤1000000) (hn:(lB (lB tB) xs).length≤1000000)
 (hP:∀(w1:World) (cs:List Value) (x:(List Typ)),x∈xs→tysL.R (·<w1.heap.size) w1 cs x→Calls Tryz.prog 114 #[vOne cs] w1 (Puts ((lB tB) x) w1)):
 Calls Tryz.prog 113 #[.slice A n c,.func (.func 114) #[] #[]] w (Puts (lB (lB tB) xs) w):=by
 have HN:=qBK hn;refine j6 ?_;intro HL HS;have HP0:=qBK hP;clear hl h hn hP;have hn3:n<B64:=by unfold B64;omega
 go_enter Tryz.func113,Tryz.ntmps113
 go_wp2_with fail
 refine(qCD n w hn3).mono ?_;rintro e w1 ⟨u1,rfl,hown1,hb1⟩;refine qAp ?_;intro HO1 HB1;clear hown1 hb1
 go_wp2_with fail
 go_loopw [5,14] (fun s i wr=>∃k:Nat,k≤n∧i= .int .i64 (k:Nat)∧(∃q,q=vb n++((xs.take k).map (lB tB)).flatten∧q.length≤1000000∧wr.ownsRow w.heap.size 5 1 s q.length (Bs q))∧Below w.heap.size w wr) (fun _ i _=>n-(intOf i).toNat)
 case atStart=>
  exact qO
 case round=>
  obtain⟨k,hk,rfl,⟨q,hq,hq2,hown⟩,hbel⟩:=hrel;refine jv ?_;intro HO HB HQ hs;clear hown hbel hq
  by_cases hlt:k<n
  · skip
    refine jA ?_;intro x hx hmem;obtain⟨a,cs,rfl,hab,hc,hr⟩:=HS.out.at hx;have HF:=qBK (qC9 (lB tB) xs k x hx);have hle2:=qCZ (lB tB) xs (k+1);rw[HF.out,List.length_append] at hle2;have hq3:q.length+((lB tB) x).length≤1000000:=by
     have:=HN.out;simp only[lB,List.length_append,HL.out] at this;rw[HQ.out,List.length_append]
     omega
    clear hle2 hx;have HR:=qBK hr;obtain⟨A2,d2,rfl,-,-,-⟩:=hr;have c0:=(HB.out.cell (p:=a.add k) qD).trans (qB9 (K:=tysL.k) rfl (hc 0 _ rfl));have HP:Hid (∀w1,Below w.heap.size w w1→Calls Tryz.prog 114 #[.slice A2 x.length d2] w1 (Puts ((lB tB) x) w1)):=fun w1 hb=>HP0.out w1 [.slice A2 x.length d2] x hmem (tysL.wide (tysL.keep HR.out fun b hb1=>hb.block b hb1) fun b hb1=>qBN hb1 hb.size);clear hc;obtain⟨y,hy⟩:∃y,(lB tB) x=y:=⟨_,rfl⟩;rw[hy] at hq3 HP;have HY:=qBK hy;clear hy
    go_wp2_with (first
     |(go_at_call 114
       refine(HP.out _ (HB.out)).mono ?_;rintro e w2 ⟨u2,rfl,hown2,hb2⟩;obtain⟨A3,c3,rfl,-,-,-,hB2⟩:=qBu hown2;refine qAW ?_;intro HB2 HO2 Hb2 hs2;clear hown2 hB2 hb2)
     |(at_builtin
       refine qBr _ rfl (.tmp 18) (.tmp 21) rfl w.heap.size u5 q.length q rfl HO2.out A3 y.length c3 y rfl rfl _ HB2.out (by omega) (by omega) ?_;intro v4 w4 hown4 hg4 _;refine qBJ ?_;intro HO4 HG4;clear hown4 hg4))
    exact qG
  · obtain rfl:k=n:=by omega
    go_wp2_with fail
    go_ret;refine⟨_,rfl,?_,HB.out⟩;have e:lB (lB tB) xs=q:=by
     rw[HQ.out,qBS qa,lB,HL.out]
    rw[e];exact HO.out
theorem qJl (A:Option Addr) (n c:Nat) (xs:List Fn) (w:World) (hl:xs.length=n) (h:Sq fnL (·<w.heap.size) w A xs) (hn2:n≤1000000) (hn:(lB fnB xs).length≤1000000)
 (hP:∀(w1:World) (cs:List Value) (x:Fn),x∈xs→fnL.R (·<w1.heap.size) w1 cs x→Calls Tryz.prog 116 #[vAgg cs] w1 (Puts (fnB x) w1)):
 Calls Tryz.prog 115 #[.slice A n c,.func (.func 116) #[] #[]] w (Puts (lB fnB xs) w):=by
 have HN:=qBK hn;refine j6 ?_;intro HL HS;have HP0:=qBK hP;clear hl h hn hP;have hn3:n<B64:=by unfold B64;omega
 go_enter Tryz.func115,Tryz.ntmps115
 go_wp2_with fail
 refine(qCD n w hn3).mono ?_;rintro e w1 ⟨u1,rfl,hown1,hb1⟩;refine qAp ?_;intro HO1 HB1;clear hown1 hb1
 go_wp2_with fail
 go_loopw [5,14] (fun s i wr=>∃k:Nat,k≤n∧i= .int .i64 (k:Nat)∧(∃q,q=vb n++((xs.take k).map fnB).flatten∧q.length≤1000000∧wr.ownsRow w.heap.size 5 1 s q.length (Bs q))∧Below w.heap.size w wr) (fun _ i _=>n-(intOf i).toNat)
 case atStart=>
  exact qO
 case round=>
  obtain⟨k,hk,rfl,⟨q,hq,hq2,hown⟩,hbel⟩:=hrel;refine jv ?_;intro HO HB HQ hs;clear hown hbel hq
  by_cases hlt:k<n
  · skip
    refine jA ?_;intro x hx hmem;obtain⟨a,cs,rfl,hab,hc,hr⟩:=HS.out.at hx;have HF:=qBK (qC9 fnB xs k x hx);have hle2:=qCZ fnB xs (k+1);rw[HF.out,List.length_append] at hle2;have hq3:q.length+(fnB x).length≤1000000:=by
     have:=HN.out;simp only[lB,List.length_append,HL.out] at this;rw[HQ.out,List.length_append]
     omega
    clear hle2 hx;have HR:=qBK hr;obtain⟨p0,p1,p2,rfl,-,-,⟨A4,d4,e4,-⟩,⟨A5,d5,e5,-⟩,⟨A6,d6,e6,-⟩⟩:=hr;simp only[List.cons.injEq,and_true] at e4 e5 e6;subst e4 e5 e6;refine qAf ?_;intro c0 c1;rw[qBT a (k*5) 1 (by omega)] at c1;have c2:=(HB.out.cell (p:=a.add (k*5+2)) qD).trans (hc 2 _ rfl);rw[qBT a (k*5) 2 (by omega)] at c2;have c3:=(HB.out.cell (p:=a.add (k*5+3)) qD).trans (hc 3 _ rfl);rw[qBT a (k*5) 3 (by omega)] at c3;have c4:=(HB.out.cell (p:=a.add (k*5+4)) qD).trans (hc 4 _ rfl);rw[qBT a (k*5) 4 (by omega)] at c4;have HP:Hid (∀w1,Below w.heap.size w w1→Calls Tryz.prog 116 #[.agg #[.slice A4 x.args.length d4,.int .i64 x.ret.1,.int .i64 x.ret.2,.slice A5 x.locs.length d5,.slice A6 x.code.length d6]] w1 (Puts (fnB x) w1)):=fun w1 hb=>HP0.out w1 [.slice A4 x.args.length d4,.int .i64 x.ret.1,.int .i64 x.ret.2,.slice A5 x.locs.length d5,.slice A6 x.code.length d6] x hmem (fnL.wide (fnL.keep HR.out fun b hb1=>hb.block b hb1) fun b hb1=>qBN hb1 hb.size);clear hc;obtain⟨y,hy⟩:∃y,fnB x=y:=⟨_,rfl⟩;rw[hy] at hq3 HP;have HY:=qBK hy;clear hy
    go_wp2_with (first
     |(go_at_call 116
       refine(HP.out _ (HB.out.alloc hs _)).mono ?_;rintro e w2 ⟨u2,rfl,hown2,hb2⟩;obtain⟨A3,c3,rfl,-,-,-,hB2⟩:=qBu hown2;refine qAo ?_;intro HB2 HO2;refine jo ?_;intro Hb2;have hs2:=Hb2.out.size;clear hown2 hB2 hb2)
     |(at_builtin
       refine qBr _ rfl (.tmp 18) (.tmp 21) rfl w.heap.size u5 q.length q rfl HO2.out A3 y.length c3 y rfl rfl _ HB2.out (by omega) (by omega) ?_;intro v4 w4 hown4 hg4 _;refine qBJ ?_;intro HO4 HG4;clear hown4 hg4))
    exact qG
  · obtain rfl:k=n:=by omega
    go_wp2_with fail
    go_ret;refine⟨_,rfl,?_,HB.out⟩;have e:lB fnB xs=q:=by
     rw[HQ.out,qBS qa,lB,HL.out]
    rw[e];exact HO.out
theorem qIP (A:Option Addr) (n c:Nat) (xs:List Imp) (w:World) (hl:xs.length=n) (h:Sq impL (·<w.heap.size) w A xs) (hn2:n≤1000000) (hn:(lB impB xs).length≤1000000)
 (hP:∀(w1:World) (cs:List Value) (x:Imp),x∈xs→impL.R (·<w1.heap.size) w1 cs x→Calls Tryz.prog 118 #[vAgg cs] w1 (Puts (impB x) w1)):
 Calls Tryz.prog 117 #[.slice A n c,.func (.func 118) #[] #[]] w (Puts (lB impB xs) w):=by
 have HN:=qBK hn;refine j6 ?_;intro HL HS;have HP0:=qBK hP;clear hl h hn hP;have hn3:n<B64:=by unfold B64;omega
 go_enter Tryz.func117,Tryz.ntmps117
 go_wp2_with fail
 refine(qCD n w hn3).mono ?_;rintro e w1 ⟨u1,rfl,hown1,hb1⟩;refine qAp ?_;intro HO1 HB1;clear hown1 hb1
 go_wp2_with fail
 go_loopw [5,14] (fun s i wr=>∃k:Nat,k≤n∧i= .int .i64 (k:Nat)∧(∃q,q=vb n++((xs.take k).map impB).flatten∧q.length≤1000000∧wr.ownsRow w.heap.size 5 1 s q.length (Bs q))∧Below w.heap.size w wr) (fun _ i _=>n-(intOf i).toNat)
 case atStart=>
  exact qO
 case round=>
  obtain⟨k,hk,rfl,⟨q,hq,hq2,hown⟩,hbel⟩:=hrel;refine jv ?_;intro HO HB HQ hs;clear hown hbel hq
  by_cases hlt:k<n
  · skip
    refine jA ?_;intro x hx hmem;obtain⟨a,cs,rfl,hab,hc,hr⟩:=HS.out.at hx;have HF:=qBK (qC9 impB xs k x hx);have hle2:=qCZ impB xs (k+1);rw[HF.out,List.length_append] at hle2;have hq3:q.length+(impB x).length≤1000000:=by
     have:=HN.out;simp only[lB,List.length_append,HL.out] at this;rw[HQ.out,List.length_append]
     omega
    clear hle2 hx;have HR:=qBK hr;obtain⟨p0,rfl,-,-,⟨A4,d4,e4,-⟩⟩:=hr;simp only[List.cons.injEq,and_true] at e4;subst e4;refine jY ?_;intro c0 c1;rw[qBT a (k*3) 1 (by omega)] at c1;refine qAQ ?_;intro c2;rw[qBT a (k*3) 2 (by omega)] at c2;have HP:Hid (∀w1,Below w.heap.size w w1→Calls Tryz.prog 118 #[.agg #[.slice A4 x.args.length d4,.int .i64 x.ret.1,.int .i64 x.ret.2]] w1 (Puts (impB x) w1)):=fun w1 hb=>HP0.out w1 [.slice A4 x.args.length d4,.int .i64 x.ret.1,.int .i64 x.ret.2] x hmem (impL.wide (impL.keep HR.out fun b hb1=>hb.block b hb1) fun b hb1=>qBN hb1 hb.size);clear hc;obtain⟨y,hy⟩:∃y,impB x=y:=⟨_,rfl⟩;rw[hy] at hq3 HP;have HY:=qBK hy;clear hy
    go_wp2_with (first
     |(go_at_call 118
       refine(HP.out _ (HB.out.alloc hs _)).mono ?_;rintro e w2 ⟨u2,rfl,hown2,hb2⟩;obtain⟨A3,c3,rfl,-,-,-,hB2⟩:=qBu hown2;refine qAo ?_;intro HB2 HO2;refine jo ?_;intro Hb2;have hs2:=Hb2.out.size;clear hown2 hB2 hb2)
     |(at_builtin
       refine qBr _ rfl (.tmp 18) (.tmp 21) rfl w.heap.size u5 q.length q rfl HO2.out A3 y.length c3 y rfl rfl _ HB2.out (by omega) (by omega) ?_;intro v4 w4 hown4 hg4 _;refine qBJ ?_;intro HO4 HG4;clear hown4 hg4))
    exact qG
  · obtain rfl:k=n:=by omega
    go_wp2_with fail
    go_ret;refine⟨_,rfl,?_,HB.out⟩;have e:lB impB xs=q:=by
     rw[HQ.out,qBS qa,lB,HL.out]
    rw[e];exact HO.out
theorem qIN (A:Option Addr) (n c:Nat) (xs:List Nat) (w:World) (hl:xs.length=n) (h:Sq numL (·<w.heap.size) w A xs) (hn2:n≤1000000) (hn:(lB numB xs).length≤1000000)
 (hP:∀(w1:World) (cs:List Value) (x:Nat),x∈xs→numL.R (·<w1.heap.size) w1 cs x→Calls Tryz.prog 120 #[vOne cs] w1 (Puts (numB x) w1)):
 Calls Tryz.prog 119 #[.slice A n c,.func (.func 120) #[] #[]] w (Puts (lB numB xs) w):=by
 have HN:=qBK hn;refine j6 ?_;intro HL HS;have HP0:=qBK hP;clear hl h hn hP;have hn3:n<B64:=by unfold B64;omega
 go_enter Tryz.func119,Tryz.ntmps119
 go_wp2_with fail
 refine(qCD n w hn3).mono ?_;rintro e w1 ⟨u1,rfl,hown1,hb1⟩;refine qAp ?_;intro HO1 HB1;clear hown1 hb1
 go_wp2_with fail
 go_loopw [5,14] (fun s i wr=>∃k:Nat,k≤n∧i= .int .i64 (k:Nat)∧(∃q,q=vb n++((xs.take k).map numB).flatten∧q.length≤1000000∧wr.ownsRow w.heap.size 5 1 s q.length (Bs q))∧Below w.heap.size w wr) (fun _ i _=>n-(intOf i).toNat)
 case atStart=>
  exact qO
 case round=>
  obtain⟨k,hk,rfl,⟨q,hq,hq2,hown⟩,hbel⟩:=hrel;refine jv ?_;intro HO HB HQ hs;clear hown hbel hq
  by_cases hlt:k<n
  · skip
    refine jA ?_;intro x hx hmem;obtain⟨a,cs,rfl,hab,hc,hr⟩:=HS.out.at hx;have HF:=qBK (qC9 numB xs k x hx);have hle2:=qCZ numB xs (k+1);rw[HF.out,List.length_append] at hle2;have hq3:q.length+(numB x).length≤1000000:=by
     have:=HN.out;simp only[lB,List.length_append,HL.out] at this;rw[HQ.out,List.length_append]
     omega
    clear hle2 hx;have HR:=qBK hr;obtain⟨rfl,-⟩:=hr;have c0:=(HB.out.cell (p:=a.add k) qD).trans (qB9 (K:=numL.k) rfl (hc 0 _ rfl));have HP:Hid (∀w1,Below w.heap.size w w1→Calls Tryz.prog 120 #[.int .u64 (x:Int)] w1 (Puts (numB x) w1)):=fun w1 hb=>HP0.out w1 [.int .u64 (x:Int)] x hmem (numL.wide (numL.keep HR.out fun b hb1=>hb.block b hb1) fun b hb1=>qBN hb1 hb.size);clear hc;obtain⟨y,hy⟩:∃y,numB x=y:=⟨_,rfl⟩;rw[hy] at hq3 HP;have HY:=qBK hy;clear hy
    go_wp2_with (first
     |(go_at_call 120
       refine(HP.out _ (HB.out)).mono ?_;rintro e w2 ⟨u2,rfl,hown2,hb2⟩;obtain⟨A3,c3,rfl,-,-,-,hB2⟩:=qBu hown2;refine qAW ?_;intro HB2 HO2 Hb2 hs2;clear hown2 hB2 hb2)
     |(at_builtin
       refine qBr _ rfl (.tmp 18) (.tmp 21) rfl w.heap.size u5 q.length q rfl HO2.out A3 y.length c3 y rfl rfl _ HB2.out (by omega) (by omega) ?_;intro v4 w4 hown4 hg4 _;refine qBJ ?_;intro HO4 HG4;clear hown4 hg4))
    exact qG
  · obtain rfl:k=n:=by omega
    go_wp2_with fail
    go_ret;refine⟨_,rfl,?_,HB.out⟩;have e:lB numB xs=q:=by
     rw[HQ.out,qBS qa,lB,HL.out]
    rw[e];exact HO.out
theorem qIL (A:Option Addr) (n c:Nat) (xs:List (List Nat)) (w:World) (hl:xs.length=n) (h:Sq strL (·<w.heap.size) w A xs) (hn2:n≤1000000) (hn:(lB pt xs).length≤1000000)
 (hP:∀(w1:World) (cs:List Value) (x:(List Nat)),x∈xs→strL.R (·<w1.heap.size) w1 cs x→Calls Tryz.prog 122 #[vOne cs] w1 (Puts (pt x) w1)):
 Calls Tryz.prog 121 #[.slice A n c,.func (.func 122) #[] #[]] w (Puts (lB pt xs) w):=by
 have HN:=qBK hn;refine j6 ?_;intro HL HS;have HP0:=qBK hP;clear hl h hn hP;have hn3:n<B64:=by unfold B64;omega
 go_enter Tryz.func121,Tryz.ntmps121
 go_wp2_with fail
 refine(qCD n w hn3).mono ?_;rintro e w1 ⟨u1,rfl,hown1,hb1⟩;refine qAp ?_;intro HO1 HB1;clear hown1 hb1
 go_wp2_with fail
 go_loopw [5,14] (fun s i wr=>∃k:Nat,k≤n∧i= .int .i64 (k:Nat)∧(∃q,q=vb n++((xs.take k).map pt).flatten∧q.length≤1000000∧wr.ownsRow w.heap.size 5 1 s q.length (Bs q))∧Below w.heap.size w wr) (fun _ i _=>n-(intOf i).toNat)
 case atStart=>
  exact qO
 case round=>
  obtain⟨k,hk,rfl,⟨q,hq,hq2,hown⟩,hbel⟩:=hrel;refine jv ?_;intro HO HB HQ hs;clear hown hbel hq
  by_cases hlt:k<n
  · skip
    refine jA ?_;intro x hx hmem;obtain⟨a,cs,rfl,hab,hc,hr⟩:=HS.out.at hx;have HF:=qBK (qC9 pt xs k x hx);have hle2:=qCZ pt xs (k+1);rw[HF.out,List.length_append] at hle2;have hq3:q.length+(pt x).length≤1000000:=by
     have:=HN.out;simp only[lB,List.length_append,HL.out] at this;rw[HQ.out,List.length_append]
     omega
    clear hle2 hx;have HR:=qBK hr;obtain⟨s0,rfl,-⟩:=hr;have c0:=(HB.out.cell (p:=a.add k) qD).trans (qB9 (K:=strL.k) rfl (hc 0 _ rfl));have HP:Hid (∀w1,Below w.heap.size w w1→Calls Tryz.prog 122 #[.string s0] w1 (Puts (pt x) w1)):=fun w1 hb=>HP0.out w1 [.string s0] x hmem (strL.wide (strL.keep HR.out fun b hb1=>hb.block b hb1) fun b hb1=>qBN hb1 hb.size);clear hc;obtain⟨y,hy⟩:∃y,pt x=y:=⟨_,rfl⟩;rw[hy] at hq3 HP;have HY:=qBK hy;clear hy
    go_wp2_with (first
     |(go_at_call 122
       refine(HP.out _ (HB.out)).mono ?_;rintro e w2 ⟨u2,rfl,hown2,hb2⟩;obtain⟨A3,c3,rfl,-,-,-,hB2⟩:=qBu hown2;refine qAW ?_;intro HB2 HO2 Hb2 hs2;clear hown2 hB2 hb2)
     |(at_builtin
       refine qBr _ rfl (.tmp 18) (.tmp 21) rfl w.heap.size u5 q.length q rfl HO2.out A3 y.length c3 y rfl rfl _ HB2.out (by omega) (by omega) ?_;intro v4 w4 hown4 hg4 _;refine qBJ ?_;intro HO4 HG4;clear hown4 hg4))
    exact qG
  · obtain rfl:k=n:=by omega
    go_wp2_with fail
    go_ret;refine⟨_,rfl,?_,HB.out⟩;have e:lB pt xs=q:=by
     rw[HQ.out,qBS qa,lB,HL.out]
    rw[e];exact HO.out
theorem qNs (A:Option Addr) (n c:Nat) (xss:List (List Nat)) (w:World) (hl:xss.length=n) (hR:Rws (·<w.heap.size) w A xss) (hn:(joinB xss).length≤1000000):
 Calls Tryz.prog 112 #[.slice A n c] w fun e w'=>∃v,e= .returned v∧w'.ownsRow w.heap.size 5 1 v (joinB xss).length (Bs (joinB xss))∧Below w.heap.size w w':=by
 have hn2:n≤1000000:=by have:=qFi xss;rw[qCd] at hn;omega
 have HN:=qBK hn;refine qBB ?_;intro HL HR;clear hl hR hn;have hn3:n<B64:=by unfold B64;omega
 go_enter Tryz.func112,Tryz.ntmps112
 go_wp2_with fail
 refine(qCD n w hn3).mono ?_;rintro e w1 ⟨u1,rfl,hown1,hb1⟩;refine qAp ?_;intro HO1 HB1;clear hown1 hb1
 go_wp2_with fail
 go_loopw [3,12] (fun s i wr=>∃k:Nat,k≤n∧i= .int .i64 (k:Nat)∧(∃q,q=vb n++pts (xss.take k)∧q.length≤1000000∧wr.ownsRow w.heap.size 5 1 s q.length (Bs q))∧Below w.heap.size w wr) (fun _ i _=>n-(intOf i).toNat)
 case atStart=>
  refine⟨0,qBU _,rfl,⟨_,rfl,?_,?_⟩,HB1.out⟩
  · have:=HN.out
    rw[qCd,HL.out] at this;simp[pts]
    omega
  · simpa[pts] using HO1.out
 case round=>
  obtain⟨k,hk,rfl,⟨q,hq,hq2,hown⟩,hbel⟩:=hrel;refine jv ?_;intro HO HB HQ hs;clear hown hbel hq
  by_cases hlt:k<n
  · obtain⟨a,B,c2,rfl,hab,hcell,_,hBy⟩:=HR.out.at (k:=k) qU
    have hcell2:=(HB.out.cell (p:=a.add k) qD).trans hcell;have HF:=qBK (qND xss k qU);have hle2:=pts_le xss (k+1);rw[HF.out,List.length_append,qCw] at hle2;obtain⟨x,hx⟩:∃x,xss[k]?.getD []=x:=⟨_,rfl⟩;rw[hx] at hcell hle2 hcell2 hBy;have HX:=qBK hx;have HY:=qBK hBy;clear hx hcell hBy;have hq3:q.length+(vb x.length).length+x.length≤1000000:=by
     have:=HN.out;rw[qCd,HL.out] at this;rw[HQ.out,List.length_append]
     omega
    clear hle2;have hx64:x.length<B64:=by unfold B64;omega
    go_wp2_with fail
    refine(qCD x.length wr hx64).mono ?_;rintro e w2 ⟨u2,rfl,hown2,hb2⟩;obtain⟨A2,c3,rfl,-,-,-,hB2⟩:=qBu hown2;have HB2:=qBK hB2;have Hb2:=qBK hb2;have HO2:=qBK (qCa HO.out hb2 (qBL _));have hs2:=hb2.size;clear hown2 hB2 hb2
    go_wp2_with (first
     |(at_builtin
       refine qBr _ rfl (.tmp 16) (.tmp 20) rfl w.heap.size u3 q.length q rfl HO2.out A2 (vb x.length).length c3 (vb x.length) rfl rfl _ HB2.out (by omega) (by omega) ?_;intro v3 w3 hown3 hg3 _;have HO3:=qBK hown3;have HG3:=qBK hg3;have HB3:=qBK ((HB.out.trans (Hb2.out.mono (by omega))).grown hg3 (by omega) (fun i hi=>(HO.out.lt i hi).1));have hs3:=hg3.size;clear hown3 hg3)
     |(at_builtin
       refine qBr _ rfl (.tmp 22) (.tmp 23) rfl w.heap.size v3 (q.length+(vb x.length).length) (q++vb x.length) rfl HO3.out B x.length c2 x rfl rfl (·<w.heap.size) (HY.out.below HB3.out (qBL _)) (by omega) (by omega) ?_;intro v4 w4 hown4 hg4 _;refine qBJ ?_;intro HO4 HG4;clear hown4 hg4))
    refine⟨⟨k+1,by omega,by simp,⟨q++vb x.length++x,?_,?_,?_⟩,HB3.out.grown HG4.out (by omega) (fun i hi=>(HO3.out.lt i hi).1)⟩,by simp[intOf];omega⟩
    · rw[HF.out,HQ.out,HX.out,pt]
      simp[List.append_assoc]
    · simp[List.length_append]
      omega
    · have e:(q++vb x.length++x).length=q.length+(vb x.length).length+x.length:=by simp[List.length_append];omega
      rw[e];exact HO4.out
  · obtain rfl:k=n:=by omega
    go_wp2_with fail
    go_ret;refine⟨_,rfl,?_,HB.out⟩;have e:joinB xss=q:=by
     rw[HQ.out,qBS qa,joinB,HL.out]
    rw[e];exact HO.out
theorem qMz (w:World) (A0 A1 A2 A3 A4:Option Addr) (c0 c1 c2 c3 c4:Nat) (x0 x1 x2 x3 x4:List Nat) (h0:Yb w A0 c0 x0) (h1:Yb w A1 c1 x1) (h2:Yb w A2 c2 x2) (h3:Yb w A3 c3 x3) (h4:Yb w A4 c4 x4):
 Rws (·<(w.alloc (.cells #[.slice A0 x0.length c0,.slice A1 x1.length c1,.slice A2 x2.length c2,.slice A3 x3.length c3,.slice A4 x4.length c4] 76)).heap.size)
  (w.alloc (.cells #[.slice A0 x0.length c0,.slice A1 x1.length c1,.slice A2 x2.length c2,.slice A3 x3.length c3,.slice A4 x4.length c4] 76)) (some ⟨w.heap.size,0,none⟩) [x0,x1,x2,x3,x4]:=fun _=>by
 refine⟨_,rfl,by simp,fun j hj=> ?_⟩;refine qAi ?_;intro hk e;rw[e,World.cell?_alloc_mark]
 match j,hj with
 |0,_=>exact⟨A0,c0,rfl,h0.1,(h0.2.keep (hk _)).wide fun b hb=>by simp;omega⟩
 |1,_=>exact⟨A1,c1,rfl,h1.1,(h1.2.keep (hk _)).wide fun b hb=>by simp;omega⟩
 |2,_=>exact⟨A2,c2,rfl,h2.1,(h2.2.keep (hk _)).wide fun b hb=>by simp;omega⟩
 |3,_=>exact⟨A3,c3,rfl,h3.1,(h3.2.keep (hk _)).wide fun b hb=>by simp;omega⟩
 |4,_=>exact⟨A4,c4,rfl,h4.1,(h4.2.keep (hk _)).wide fun b hb=>by simp;omega⟩
 |j+5,hj=>exact absurd hj (by simp)
def Encodes (m:Mod) (w:World) (e:Ending) (w':World):Prop:=
 Below w.heap.size w w'∧((fitB m=false∧e= .returned (.tuple #[.slice none 0 0,.int .i64 2]))∨
  (fitB m=true∧∃u,e= .returned (.tuple #[u,.int .i64 0])∧w'.ownsRow w.heap.size 5 1 u (modB m).length (Bs (modB m))))
theorem qF6 (cs:List Value) (x:Mod) (w:World) (h:modL.R (·<w.heap.size) w cs x):Calls Tryz.prog 62 #[vAgg cs] w (Encodes x w):=by
 have TF:Hid (∀w1,Below w.heap.size w w1→Calls Tryz.prog 111 #[vAgg cs] w1 (Tells (fitB x) w1)):=fun w1 hb=>qOQ cs x w1 (modL.wide (modL.keep h fun b hb1=>hb.block b hb1) fun b hb1=>qBN hb1 hb.size);obtain⟨_,_,_,_,_,rfl,⟨A0,d0,e0,l0,m0,s0⟩,⟨A1,d1,e1,l1,m1,s1⟩,⟨A2,d2,e2,l2,m2,s2⟩,⟨A3,d3,e3,l3,m3,s3⟩,⟨A4,d4,e4,l4,m4,s4⟩⟩:=h;simp only[List.cons.injEq,and_true] at e0 e1 e2 e3 e4;subst e0 e1 e2 e3 e4;have TF2:Hid (∀w1,Below w.heap.size w w1→Calls Tryz.prog 111 #[.agg #[.slice A0 x.recs.length d0,.slice A1 x.funcs.length d1,.slice A2 x.imps.length d2,.slice A3 x.ints.length d3,.slice A4 x.texts.length d4]] w1 (Tells (fitB x) w1)):=TF.out;clear TF
 show Calls Tryz.prog 62 #[.agg #[.slice A0 x.recs.length d0,.slice A1 x.funcs.length d1,.slice A2 x.imps.length d2,.slice A3 x.ints.length d3,.slice A4 x.texts.length d4]] w (Encodes x w)
 refine jk ?_;intro HB0
 cases hf:fitB x
 · rw[hf] at TF2
   have HF:=qBK hf;generalize x.recs.length=n0 at*;generalize x.funcs.length=n1 at*;generalize x.imps.length=n2 at*;generalize x.ints.length=n3 at*;generalize x.texts.length=n4 at*;clear hf s0 s1 s2 s3 s4 m0 m1 m2 m3 m4
   go_enter Tryz.func62,Tryz.ntmps62
   go_wp2_with (first
    |(go_at_call 111
      refine(TF2.out _ (HB0.out _)).mono ?_;rintro e w1 ⟨rfl,hb1⟩;refine qAC ?_;intro HB1;clear hb1))
   go_ret2;exact⟨HB1.out,.inl ⟨HF.out,rfl⟩⟩
 · rw[hf] at TF2
   have hF:=qBw.1 hf;have HF:=qBK hf;have hpl:=hF.parts_len;have p0:=hpl 0 (by simp[partsB]);have p1:=hpl 1 (by simp[partsB]);have p2:=hpl 2 (by simp[partsB]);have p3:=hpl 3 (by simp[partsB]);have p4:=hpl 4 (by simp[partsB]);simp[partsB] at p0 p1 p2 p3 p4;have r8:=hF.r8;have f8:=hF.f8;have i8:=hF.i8;have n16:=hF.n16;have t16:=hF.t16;refine jR ?_;intro n0 h0 n1 h1 n2 h2;refine qAc ?_;intro n3 h3 n4 h4;obtain⟨y0,hy0⟩:∃y,lB (lB tB) x.recs=y:=⟨_,rfl⟩;obtain⟨y1,hy1⟩:∃y,lB fnB x.funcs=y:=⟨_,rfl⟩;obtain⟨y2,hy2⟩:∃y,lB impB x.imps=y:=⟨_,rfl⟩;obtain⟨y3,hy3⟩:∃y,lB numB x.ints=y:=⟨_,rfl⟩;obtain⟨y4,hy4⟩:∃y,lB pt x.texts=y:=⟨_,rfl⟩;have P0:Hid (∀w1,Below w.heap.size w w1→Calls Tryz.prog 113 #[.slice A0 n0 d0,.func (.func 114) #[] #[]] w1 (Puts y0 w1)):=fun w1 hb=>by
    rw[←hy0];refine qIM A0 n0 d0 x.recs w1 h0 ((s0.keep fun b hb1=>hb.block b hb1).wide fun b hb1=>qBN hb1 hb.size) (by omega) (by omega) fun w2 cs y hy hr=> ?_;obtain⟨A,c,rfl,l1,l2,l3⟩:=hr;have hz:=qD5 (hF.recs y hy);have hzl:=qDC hF.r8 (by omega) hz.2;exact qCt A y.length c y w2 rfl l3 (by omega) (by omega)
   have P1:Hid (∀w1,Below w.heap.size w w1→Calls Tryz.prog 115 #[.slice A1 n1 d1,.func (.func 116) #[] #[]] w1 (Puts y1 w1)):=fun w1 hb=>by
    rw[←hy1];exact qJl A1 n1 d1 x.funcs w1 h1 ((s1.keep fun b hb1=>hb.block b hb1).wide fun b hb1=>qBN hb1 hb.size) (by omega) (by omega) fun w2 cs y hy hr=>qFJ cs y _ w2 hF.r8 (hF.funcs y hy) hr
   have P2:Hid (∀w1,Below w.heap.size w w1→Calls Tryz.prog 117 #[.slice A2 n2 d2,.func (.func 118) #[] #[]] w1 (Puts y2 w1)):=fun w1 hb=>by
    rw[←hy2];exact qIP A2 n2 d2 x.imps w1 h2 ((s2.keep fun b hb1=>hb.block b hb1).wide fun b hb1=>qBN hb1 hb.size) (by omega) (by omega) fun w2 cs y hy hr=>qGK cs y _ w2 hF.r8 (hF.imps y hy) hr
   have P3:Hid (∀w1,Below w.heap.size w w1→Calls Tryz.prog 119 #[.slice A3 n3 d3,.func (.func 120) #[] #[]] w1 (Puts y3 w1)):=fun w1 hb=>by
    rw[←hy3];refine qIN A3 n3 d3 x.ints w1 h3 ((s3.keep fun b hb1=>hb.block b hb1).wide fun b hb1=>qBN hb1 hb.size) (by omega) (by omega) fun w2 cs y hy hr=> ?_;obtain⟨rfl,hy64⟩:=hr;exact qIJ y w2 hy64
   have P4:Hid (∀w1,Below w.heap.size w w1→Calls Tryz.prog 121 #[.slice A4 n4 d4,.func (.func 122) #[] #[]] w1 (Puts y4 w1)):=fun w1 hb=>by
    rw[←hy4];refine qIL A4 n4 d4 x.texts w1 h4 ((s4.keep fun b hb1=>hb.block b hb1).wide fun b hb1=>qBN hb1 hb.size) (by omega) (by omega) fun w2 cs y hy hr=> ?_;obtain⟨s,rfl,rfl⟩:=hr;exact qLZ s w2 (by have:=hF.texts _ hy;omega)
   have hlen:=hF.len;have HI:Hid (modB x=joinB [y0,y1,y2,y3,y4]):=by show modB x=_;rw[←hy0,←hy1,←hy2,←hy3,←hy4];rfl
   have HZ:Hid ((joinB [y0,y1,y2,y3,y4]).length≤1000000):=by show(joinB _).length≤_;rw[←HI.out];omega
   rw[h0,h1,h2,h3,h4] at TF2⊢;clear hF hf hpl p0 p1 p2 p3 p4 r8 f8 i8 n16 t16 h0 h1 h2 h3 h4 hy0 hy1 hy2 hy3 hy4 s0 s1 s2 s3 s4 l0 l1 l2 l3 l4 m0 m1 m2 m3 m4 hlen
   go_enter Tryz.func62,Tryz.ntmps62
   have HC:Hid (C5 w.heap.size (.slice A0 n0 d0) (.slice A1 n1 d1) (.slice A2 n2 d2) (.slice A3 n3 d3) (.slice A4 n4 d4) (w.alloc (.cells #[.slice A0 n0 d0,.slice A1 n1 d1,.slice A2 n2 d2,.slice A3 n3 d3,.slice A4 n4 d4] 28))):=by show C5 _ _ _ _ _ _ _;simp[C5,go_sem]
   go_wp2_with (first
    |(go_at_call 111
      refine(TF2.out _ (HB0.out _)).mono ?_;rintro e W ⟨rfl,hb1⟩;have HB:=qBK ((HB0.out _).trans (hb1.mono (by simp)));have HC0:=qBK (HC.out.below hb1 (by simp));have hs:w.heap.size<W.heap.size:=zI;clear hb1))
   obtain⟨z0,z1,z2,z3,z4⟩:=HC0.out
   go_region_held3 (fun w'=>w'.cell? ⟨w.heap.size,0,none⟩=some (.slice A0 n0 d0)∧w'.cell? ⟨w.heap.size,1,none⟩=some (.slice A1 n1 d1)∧w'.cell? ⟨w.heap.size,2,none⟩=some (.slice A2 n2 d2)∧w'.cell? ⟨w.heap.size,3,none⟩=some (.slice A3 n3 d3)∧w'.cell? ⟨w.heap.size,4,none⟩=some (.slice A4 n4 d4))
    (first|exact HC6.out|exact HC5.out|exact HC5.out.below (Below.alloc (qBO _ _) (qBL _) _) HS5.out|exact HC4.out|exact HC3.out|exact HC2.out|exact HC1.out|exact HC0.out)
    (first
      |(go_at_call 113
        refine(P0.out _ HB.out.drew).mono ?_;rintro e w1 ⟨u1,rfl,hown1,hb1⟩;obtain⟨B0,f0,rfl,hy0⟩:=Yb.of hown1;have Y0a:=qBK hy0;have HB1:=qBK (HB.out.drew.trans (hb1.mono HB.out.size));have HC1:=qBK (C5.below (w:=W.drew) HC0.out hb1 hs);have HS1:=qBK (qBN hs hb1.size);clear hown1 hb1 hy0)
      |(go_at_call 115
        refine(P1.out _ HB1.out).mono ?_;rintro e w2 ⟨u2,rfl,hown2,hb2⟩;obtain⟨B1,f1,rfl,hy1⟩:=Yb.of hown2;have Y0b:=qBK (Y0a.out.below hb2);have Y1a:=qBK hy1;refine jl ?_;intro HB2;have HC2:=qBK (HC1.out.below hb2 HS1.out);have HS2:=qBK (qBN HS1.out hb2.size);clear hown2 hb2 hy1)
      |(go_at_call 117
        refine(P2.out _ HB2.out).mono ?_;rintro e w3 ⟨u3,rfl,hown3,hb3⟩;obtain⟨B2,f2,rfl,hy2⟩:=Yb.of hown3;refine qAj ?_;intro Y0c Y1b Y2a HB3 HC3 HS3;clear hown3 hb3 hy2)
      |(go_at_call 119
        refine(P3.out _ HB3.out).mono ?_;rintro e w4 ⟨u4,rfl,hown4,hb4⟩;obtain⟨B3,f3,rfl,hy3⟩:=Yb.of hown4;have Y0d:=qBK (Y0c.out.below hb4);have Y1c:=qBK (Y1b.out.below hb4);have Y2b:=qBK (Y2a.out.below hb4);have Y3a:=qBK hy3;refine qAt ?_;intro HB4;have HC4:=qBK (HC3.out.below hb4 HS3.out);have HS4:=qBK (qBN HS3.out hb4.size);clear hown4 hb4 hy3)
      |(go_at_call 121
        refine(P4.out _ HB4.out).mono ?_;rintro e w5 ⟨u5,rfl,hown5,hb5⟩;obtain⟨B4,f4,rfl,hy4⟩:=Yb.of hown5;have Y0:=qBK (Y0d.out.below hb5);have Y1:=qBK (Y1c.out.below hb5);have Y2:=qBK (Y2b.out.below hb5);have Y3:=qBK (Y3a.out.below hb5);have Y4:=qBK hy4;have HB5:=qBK (HB4.out.trans (hb5.mono HB4.out.size));have HC5:=qBK (HC4.out.below hb5 HS4.out);have HS5:=qBK (qBN HS4.out hb5.size);clear hown5 hb5 hy4)
      |(go_at_call 112
        refine(qNs _ _ _ [y0,y1,y2,y3,y4] _ rfl (qMz w5 B0 B1 B2 B3 B4 f0 f1 f2 f3 f4 y0 y1 y2 y3 y4 Y0.out Y1.out Y2.out Y3.out Y4.out) HZ.out).mono ?_;rintro e w6 ⟨u6,rfl,hown6,hb6⟩;have HO6:=qBK hown6;have Hb6:=qBK hb6;have HC6:=qBK ((HC5.out.below (Below.alloc (qBO _ _) (qBL _) _) HS5.out).below hb6 (by simp;have:=HS5.out;omega));clear hown6 hb6))
   go_wp2_with fail
   go_ret2;refine⟨(HB5.out.alloc HB5.out.size _).trans (Hb6.out.mono (by simp;have:=HB5.out.size;omega)),.inr ⟨HF.out,_,rfl,?_⟩⟩;rw[HI.out];exact qC5 HO6.out (by simp;have:=HB5.out.size;omega)
def tA:Array Value:= #[.int .i64 1,.int .i64 0]
def iA:Array Value:= #[.int .i64 26,.int .i64 0,.int .i64 0]
def bm:Nat→Nat→Mod
 |0,k=>⟨List.replicate k [],[fn0],[],[],[]⟩
 |1,k=>⟨[],List.replicate (k+1) fn0,[],[],[]⟩
 |2,k=>⟨[],[fn0],List.replicate k ⟨[],(1,0)⟩,[],[]⟩
 |3,k=>⟨[],[fn0],[],List.range k,[]⟩
 |4,k=>⟨[],[fn0],[],[],List.replicate k [97]⟩
 |5,k=>⟨[],[⟨[],(1,0),List.replicate k (1,0),[(26,0,0)]⟩],[],[],[]⟩
 |_,k=>⟨[],[⟨[],(1,0),[],(26,0,0)::List.replicate k (5,0,0)⟩],[],[],[]⟩
def bt:Nat→Nat
 |0=>8
 |1=>7
 |2=>8
 |3=>16
 |4=>16
 |5=>8
 |_=>63
def Bst (N ty k b0 g ty2:Nat) (mk:Value→Array Value) (w W0 wr:World) (css:List (List Value)) (v:Value):Prop:=
 Below N w wr∧N+4≤wr.heap.size∧wr.ownsRow (N+1) ty k v css.length css.flatten∧(∀b,v.ownBlock=some b→b=b0∨N+4≤b)∧(∀b,b<N+4→b≠b0→b≠g→wr.heap[b]? =W0.heap[b]?)∧Blk wr g ty2 (mk v)
theorem Bst.blk {N k b0 ty2:Nat} {mk:Value→Array Value} {W0 wr w1 w2:World} {css:List (List Value)} (h:Bst N ty k b0 g ty2 mk w W0 wr css v) (hb:b0≠g) (hg:g<N+4) (h1:Below wr.heap.size wr w1) (hgr:w1.grownBy w2 v.ownBlock):Blk w2 g ty2 (mk v):=by
 obtain⟨a1,a2,a3,a4,a5,a6⟩:=h;refine((hgr.block g (qBN a6.lt h1.size) fun e=> ?_).trans (h1.block g a6.lt)).trans a6;rcases a4 g e.symm with h|h<;>omega
theorem Bst.step {N k b0 ty2 i:Nat} {mk:Value→Array Value} {W0 wr w1 w2:World} {css:List (List Value)} {ys:List Value} {v':Value} (h:Bst N ty k b0 g ty2 mk w W0 wr css v) (hb:b0≠g) (hb0:N≤b0) (hg0:N≤g) (hg:g<N+4) (h1:Below wr.heap.size wr w1)
 (hown:w2.ownsRow (N+1) ty k v' (css.length+1) (css.flatten++ys)) (hgr:w1.grownBy w2 v.ownBlock) (h5:v'.ownBlock=v.ownBlock∨v'.ownBlock=some w1.heap.size) (hset:(mk v).setIfInBounds i v'=mk v'):
 Bst N ty k b0 g ty2 mk w W0 (w2.setCell ⟨g,i,none⟩ v') (css++[ys]) v':=by
 have hblk:=h.blk hb hg h1 hgr;obtain⟨a1,a2,a3,a4,a5,a6⟩:=h;have s1:=h1.size;have s2:=hgr.size;have hv:∀b,v'.ownBlock=some b→b=b0∨N+4≤b:=by
  intro b e;rcases h5 with h|h
  · exact a4 b (h▸e)
  · rw[h] at e
    injection e with e
    omega
 have hrow:∀j,v.ownBlock=some j→N≤j:=fun j e=>by rcases a4 j e with h|h<;>omega
 refine⟨((a1.trans (h1.mono (by omega))).trans (qDy hgr (by omega) hrow)).setCell (p:=⟨g,i,none⟩) hg0 _,by have:=(qCX (qBv g w2) i v').size;omega,?_,hv,?_,?_⟩
 · have:=hown.kept (row:=some g) (qCX (qBv g w2) i v') (.inr fun e=>by rcases hv g e with h|h<;>omega)
   simpa using this
 · intro b h2 h3 h4
   rw[qBP _ _ _ _ (by simpa using h4),hgr.block b (by omega) (fun e=>by rcases a4 b e.symm with h|h<;>omega),h1.block b (by omega)];exact a5 b h2 h3 h4
 · rw[←hset]
   exact hblk.set i v'
theorem qJV {α:Type} {L:Lay α} {S:Nat→Prop} {cs:Array Value} {c0 c1:List Value} {x y:α} (h:Blk w g ty cs) (hg:S g) (hc:cs.toList=c0++c1) (h0:L.R S w c0 x) (h1:L.R S w c1 y):(slL L).R S w [.slice (some ⟨g,0,none⟩) 2 2] [x,y]:=by
 have l0:=L.len h0;have l1:=L.len h1;have hcell:∀i u,(c0++c1)[i]? =some u→w.cell? ⟨g,i,none⟩=some u:=fun i u hu=>by
  rw[h.cell i,←hu,←hc];simp
 have e:∀i,(⟨g,0,none⟩:Addr).add i=⟨g,i,none⟩:=fun i=>by unfold Addr.add;split<;>simp_all
 refine⟨some ⟨g,0,none⟩,2,rfl,qBL _,by simp[maxLen],fun _=>⟨_,rfl,hg,fun j z hz=> ?_⟩⟩
 match j,hz with
 |0,hz=>
  simp at hz;subst hz;refine⟨c0,fun i u hu=> ?_,h0⟩;rw[e,Nat.zero_mul,Nat.zero_add];have hi:=(qBM.1 hu).1;exact hcell i u (by rw[List.getElem?_append_left hi];exact hu)
 |1,hz=>
  simp at hz;subst hz;refine⟨c1,fun i u hu=> ?_,h1⟩;rw[e,Nat.one_mul];exact hcell _ u (by rw[List.getElem?_append_right (by omega)];simpa[l0] using hu)
 |j+2,hz=>simp at hz
def TypIs (t:Typ) (w:World) (e:Ending) (w':World):Prop:=e= .returned (.agg #[.int .i64 t.1,.int .i64 t.2])∧Below w.heap.size w w'
theorem qKX {B R:Nat} {W:World} {u:Value} (h:Below B w W) (hR:B≤R):Below B w ((W.setCell ⟨R,0,none⟩ u).setCell ⟨R,1,none⟩ v):=(h.setCell (p:=⟨R,0,none⟩) hR u).setCell (p:=⟨R,1,none⟩) hR v
theorem qBe (w:World) (o:Obj):Below w.heap.size w (w.alloc o):=(qBO _ w).alloc (qBL _) o
theorem qLe (k:Int) (w:World):Calls Tryz.prog 256 #[.int .i64 k] w (TypIs (k,0) w):=by
 go_enter Tryz.func256,Tryz.ntmps256
 go_wp2_with fail
 exact bodyPost_ret (v:= .agg #[.int .i64 k,.int .i64 0]) (by simp[results,Tryz.results256,go_sem]) rfl ⟨rfl,qBe _ _⟩
def topB (s:List Typ) (n:Nat):Typ:=if n<s.length then (s[s.length-1-n]?).getD (8,0) else (8,0)
theorem qI2 (A:Option Addr) (n c k:Nat) (ts:List Typ) (w:World) (hl:ts.length=n) (h:Sq typL (·<w.heap.size) w A ts) (hn:n≤9223372036854775807) (hk:k≤1):
 Calls Tryz.prog 260 #[.slice A n c,.int .i64 (k:Nat)] w (TypIs (topB ts k) w):=by
 by_cases hkn:k<n
 · obtain⟨t,ht⟩:∃t,ts[n-1-k]? =some t:=⟨ts[n-1-k]'(by omega),List.getElem?_eq_getElem _⟩
   have HT:Hid (topB ts k=t):=by
    show topB ts k=t
    rw[topB,hl,if_pos hkn,ht]
    rfl
   obtain⟨a,cs,rfl,hab,hc,hr⟩:=h.at ht;obtain⟨rfl,-,-⟩:=hr;obtain⟨j,hj⟩:∃j:Nat,n-1-k=j:=⟨_,rfl⟩;rw[hj] at hc;have e1:(n:Int)-1-(k:Int)=(j:Int):=by omega
   have j1:(j:Int)<(n:Int):=by omega
   have k1:¬((n:Int)≤(k:Int)):=by omega
   have c0:=fun ob=>(qBe w ob).cell (p:=a.add (j*2)) qD |>.trans (hc 0 _ rfl);have c1:=fun ob=>(qBe w ob).cell (p:=a.add (j*2+1)) qD |>.trans (hc 1 _ rfl);rw[qBT a (j*2) 1 (by omega)] at c1;clear hc h ht hl hj
   go_enter Tryz.func260,Tryz.ntmps260
   go_wp2_with fail
   exact bodyPost_ret (v:= .agg #[.int .i64 t.1,.int .i64 t.2]) (by simp[results,Tryz.results260,go_sem]) rfl ⟨by rw[HT.out],qBe _ _⟩
 · have HT:Hid (topB ts k=(8,0)):=by
    show topB ts k=(8,0)
    rw[topB,hl,if_neg hkn]
   have hk3:(n:Int)≤(k:Int):=by omega
   have HP:=qBK (fun w=>qLe 8 w);clear h hl
   go_enter Tryz.func260,Tryz.ntmps260
   go_wp2_with (first
    |(go_at_call 256
      refine(HP.out _).mono ?_;rintro e w1 ⟨rfl,hb1⟩;have HB:=qBK hb1;obtain⟨hc1,hf1⟩:=qCU hb1;have hs1:w.heap.size<w1.heap.size:=zI;clear hb1))
   exact bodyPost_ret (v:= .agg #[.int .i64 8,.int .i64 0]) (by simp[results,Tryz.results260,go_sem,hc1,hs1]) rfl ⟨by rw[HT.out],qKX ((qBe _ _).trans (HB.out.mono (by simp))) (qBL _)⟩
def hasB (n:Nat) (k:Int):Bool:=decide (0≤k) && decide (k<(n:Int))
theorem qIx (A:Option Addr) (n c:Nat) (k:Int) (w:World):Calls Tryz.prog 271 #[.slice A n c,.int .i64 k] w fun e w'=>e= .returned (.bool (hasB n k))∧w'=w:=by
 unfold hasB
 by_cases h0:0≤k
 · go_enter Tryz.func271,Tryz.ntmps271
   go_wp2_with fail
   go_ret;exact⟨by simp[h0],rfl⟩
 · go_enter Tryz.func271,Tryz.ntmps271
   go_wp2_with fail
   go_ret;exact⟨by simp[h0];omega,rfl⟩
theorem qFz (A:Option Addr) (n c:Nat) (k:Int) (w:World):Calls Tryz.prog 220 #[.slice A n c,.int .i64 k] w fun e w'=>e= .returned (.bool (hasB n k))∧w'=w:=by
 unfold hasB
 by_cases h0:0≤k
 · go_enter Tryz.func220,Tryz.ntmps220
   go_wp2_with fail
   go_ret;exact⟨by simp[h0],rfl⟩
 · go_enter Tryz.func220,Tryz.ntmps220
   go_wp2_with fail
   go_ret;exact⟨by simp[h0];omega,rfl⟩
theorem qIz (A:Option Addr) (n c:Nat) (k:Int) (w:World):Calls Tryz.prog 221 #[.slice A n c,.int .i64 k] w fun e w'=>e= .returned (.bool (hasB n k))∧w'=w:=by
 unfold hasB
 by_cases h0:0≤k
 · go_enter Tryz.func221,Tryz.ntmps221
   go_wp2_with fail
   go_ret;exact⟨by simp[h0],rfl⟩
 · go_enter Tryz.func221,Tryz.ntmps221
   go_wp2_with fail
   go_ret;exact⟨by simp[h0];omega,rfl⟩
end Go.Proofs.YtgdbhanhmenmfaaGreat
