/-
Pwf Plrec Plfn Plimp Plnum Plstr Pjn En Sml
-/
import Derived.Test.YtelceoecekfamaaGreatQ01
import Derived.Test.YtelceoecekfamaaGreatQ02
import Derived.Test.YtelceoecekfamaaGreatQ04
import Derived.Deep.RegionHeld3
set_option linter.unusedSimpArgs false
set_option linter.unusedVariables false
set_option maxRecDepth 100000
set_option maxHeartbeats 4000000
namespace Go.Proofs.YtelceoecekfamaaGreat
open Go.RowKit
theorem qIk (w:World) (A0 A1 A2 A3:Option Addr) (c0 c1 c2 c3:Nat) (x0 x1 x2 x3:List Nat) (l0:x0.length≤c0) (l1:x1.length≤c1) (l2:x2.length≤c2) (l3:x3.length≤c3)
 (h0:Byt (·<w.heap.size) w A0 x0) (h1:Byt (·<w.heap.size) w A1 x1) (h2:Byt (·<w.heap.size) w A2 x2) (h3:Byt (·<w.heap.size) w A3 x3):
 Rws (·<(w.alloc (.cells #[.slice A0 x0.length c0,.slice A1 x1.length c1,.slice A2 x2.length c2,.slice A3 x3.length c3] 62)).heap.size)
  (w.alloc (.cells #[.slice A0 x0.length c0,.slice A1 x1.length c1,.slice A2 x2.length c2,.slice A3 x3.length c3] 62)) (some ⟨w.heap.size,0,none⟩) [x0,x1,x2,x3]:=fun _=>by
 refine⟨_,rfl,by simp,fun j hj=> ?_⟩;refine qAK ?_;intro hk e;rw[e,World.cell?_alloc_mark]
 match j,hj with
 |0,_=>exact⟨A0,c0,rfl,l0,(h0.keep (hk _)).wide fun b hb=>by simp;omega⟩
 |1,_=>exact⟨A1,c1,rfl,l1,(h1.keep (hk _)).wide fun b hb=>by simp;omega⟩
 |2,_=>exact⟨A2,c2,rfl,l2,(h2.keep (hk _)).wide fun b hb=>by simp;omega⟩
 |3,_=>exact⟨A3,c3,rfl,l3,(h3.keep (hk _)).wide fun b hb=>by simp;omega⟩
 |j+4,hj=>exact absurd hj (by simp)
def Yb (w:World) (A:Option Addr) (c:Nat) (xs:List Nat):Prop:=xs.length≤c∧Byt (·<w.heap.size) w A xs
theorem Yb.below {w w':World} {A:Option Addr} {c:Nat} {xs:List Nat} (h:Yb w A c xs) (hb:Below w.heap.size w w'):Yb w' A c xs:=
 ⟨h.1,(h.2.below hb (qAi _)).wide fun b h1=>qAh h1 hb.size⟩
theorem Yb.of {w:World} {base n:Nat} {v:Value} {xs:List Nat} (h:w.ownsRow base 5 1 v n (Bs xs)):∃A c,v= .slice A xs.length c∧Yb w A c xs:=by
 obtain⟨A,c,rfl,e,h1,-,h2⟩:=qAu h;subst e;exact⟨A,c,rfl,h1,h2.wide fun b hb=>hb.2⟩
theorem qDd (cs:List Value) (x:Fn) (r:Int) (w:World) (hr:r≤8) (hx:fnOk r x=true) (h:fnL.R (·<w.heap.size) w cs x):Calls Tryz.prog 53 #[vAgg cs] w (Puts (fnB x) w):=by
 obtain⟨a1,a2,a3,a4,a5,a6,a7,a8⟩:=qCv hx;have hB1:=qBy hr (by omega) a5;have hB2:=qCi hr a6;have hB3:=qBy hr (by omega) a7;have hB4:=qBb iB x.code 5 (fun t _=>qE9 t) (by unfold B64;omega);clear a5 a6 a7 a8 hx hr;obtain⟨p0,p1,p2,rfl,i1,i2,⟨A4,d4,e4,l4,m4,s4⟩,⟨A5,d5,e5,l5,m5,s5⟩,⟨A6,d6,e6,l6,m6,s6⟩⟩:=h;simp only[List.cons.injEq,and_true] at e4 e5 e6;subst e4 e5 e6
 show Calls Tryz.prog 53 #[.agg #[.slice A4 x.args.length d4,.int .i64 x.ret.1,.int .i64 x.ret.2,.slice A5 x.locs.length d5,.slice A6 x.code.length d6]] w (Puts (fnB x) w)
 obtain⟨n,hn⟩:∃n,x.args.length=n:=⟨_,rfl⟩;obtain⟨m,hm⟩:∃m,x.locs.length=m:=⟨_,rfl⟩;obtain⟨o,ho⟩:∃o,x.code.length=o:=⟨_,rfl⟩;obtain⟨y0,hy0⟩:∃y,lB tB x.args=y:=⟨_,rfl⟩;obtain⟨y1,hy1⟩:∃y,tB x.ret=y:=⟨_,rfl⟩;obtain⟨y2,hy2⟩:∃y,lB tB x.locs=y:=⟨_,rfl⟩;obtain⟨y3,hy3⟩:∃y,lB iB x.code=y:=⟨_,rfl⟩;have P0:Hid (∀w1,Below w.heap.size w w1→Calls Tryz.prog 51 #[.slice A4 n d4] w1 (Puts y0 w1)):=fun w1 hb=>by
  rw[←hy0];exact qBo A4 n d4 x.args w1 hn ((s4.keep fun b hb1=>hb.block b hb1).wide fun b hb1=>qAh hb1 hb.size) (by omega) (by omega)
 have P1:Hid (∀w1,Calls Tryz.prog 89 #[.agg #[.int .i64 x.ret.1,.int .i64 x.ret.2]] w1 (Puts y1 w1)):=fun w1=>by
  rw[←hy1];exact kput x.ret.1 x.ret.2 w1 i1 i2
 have P2:Hid (∀w1,Below w.heap.size w w1→Calls Tryz.prog 51 #[.slice A5 m d5] w1 (Puts y2 w1)):=fun w1 hb=>by
  rw[←hy2];exact qBo A5 m d5 x.locs w1 hm ((s5.keep fun b hb1=>hb.block b hb1).wide fun b hb1=>qAh hb1 hb.size) (by omega) (by omega)
 have P3:Hid (∀w1,Below w.heap.size w w1→Calls Tryz.prog 91 #[.slice A6 o d6,.func (.func 92) #[] #[]] w1 (Puts y3 w1)):=fun w1 hb=>by
  rw[←hy3];exact qFg A6 o d6 x.code w1 ho ((s6.keep fun b hb1=>hb.block b hb1).wide fun b hb1=>qAh hb1 hb.size) (by omega) (by omega) (put_ins x.code)
 have HI:Hid (fnB x=[y0,y1,y2,y3].flatten):=by show fnB x=_;rw[←hy0,←hy1,←hy2,←hy3];simp[fnB]
 rw[hy0] at hB1;rw[hy1] at hB2;rw[hy2] at hB3;rw[hy3,ho] at hB4;rw[hn,hm,ho];rw[hn] at a1 a2;rw[hm] at a2;rw[ho] at a3 a4;clear hy0 hy1 hy2 hy3 hn hm ho s4 l4 m4 s5 l5 m5 s6 l6 m6 i1 i2;have HZ:Hid ([y0,y1,y2,y3].flatten.length≤140737488355328):=by show[y0,y1,y2,y3].flatten.length≤_;simp;omega
 obtain⟨b,hb⟩:∃b,fnB x=b:=⟨_,rfl⟩;rw[hb] at HI⊢;clear hb;generalize x.ret.1=k1 at*;generalize x.ret.2=k2 at*
 go_enter Tryz.func53,Tryz.ntmps53
 go_wp2_with fail
 refine qAs fun W hW=> ?_;have hC:C5 w.heap.size (.slice A4 n d4) (.int .i64 k1) (.int .i64 k2) (.slice A5 m d5) (.slice A6 o d6) W:=by rw[hW];simp[C5,go_sem]
 refine jM ?_;intro HB0;have hs:w.heap.size<W.heap.size:=by rw[hW];simp
 clear hW;have HC0:=qAg hC;obtain⟨z0,z1,z2,z3,z4⟩:=hC
 go_region_held3 (fun w'=>w'.cell? ⟨w.heap.size,0,none⟩=some (.slice A4 n d4)∧w'.cell? ⟨w.heap.size,1,none⟩=some (.int .i64 k1)∧w'.cell? ⟨w.heap.size,2,none⟩=some (.int .i64 k2)∧w'.cell? ⟨w.heap.size,3,none⟩=some (.slice A5 m d5)∧w'.cell? ⟨w.heap.size,4,none⟩=some (.slice A6 o d6))
  (first|exact HC5.out|exact HC4.out|exact HC4.out.below (Below.alloc (qAk _ _) (qAi _) _) HS4.out|exact HC3.out|exact HC2.out|exact HC1.out|exact HC0.out)
  (first
    |(go_at_call 91
      refine(P3.out _ HB3.out).mono ?_;rintro e w4 ⟨u4,rfl,hown4,hb4⟩;obtain⟨B3,f3,rfl,hy3⟩:=Yb.of hown4;have Y0:=qAg (Y0c.out.below hb4);have Y1:=qAg (Y1b.out.below hb4);have Y2:=qAg (Y2a.out.below hb4);have Y3:=qAg hy3;refine qAQ ?_;intro HB4;have HC4:=qAg (HC3.out.below hb4 HS3.out);have HS4:=qAg (qAh HS3.out hb4.size);clear hown4 hb4 hy3)
    |(go_at_call 51
      (with_reducible refine(P2.out _ ?_).mono ?_)
      · exact HB2.out
      rintro e w3 ⟨u3,rfl,hown3,hb3⟩;obtain⟨B2,f2,rfl,hy2⟩:=Yb.of hown3;refine qAL ?_;intro Y0c Y1b Y2a HB3 HC3 HS3;clear hown3 hb3 hy2)
    |(go_at_call 89
      refine(P1.out _).mono ?_;rintro e w2 ⟨u2,rfl,hown2,hb2⟩;obtain⟨B1,f1,rfl,hy1⟩:=Yb.of hown2;have Y0b:=qAg (Y0a.out.below hb2);have Y1a:=qAg hy1;refine jX ?_;intro HB2;have HC2:=qAg (HC1.out.below hb2 HS1.out);have HS2:=qAg (qAh HS1.out hb2.size);clear hown2 hb2 hy1)
    |(go_at_call 51
      (with_reducible refine(P0.out _ ?_).mono ?_)
      · exact HB0.out.drew
      rintro e w1 ⟨u1,rfl,hown1,hb1⟩;obtain⟨B0,f0,rfl,hy0⟩:=Yb.of hown1;have Y0a:=qAg hy0;have HB1:=qAg (HB0.out.drew.trans (hb1.mono HB0.out.size));have HC1:=qAg (C5.below (w:=W.drew) HC0.out hb1 hs);have HS1:=qAg (qAh hs hb1.size);clear hown1 hb1 hy0)
    |(go_at_call 90
      refine(qG5 _ _ _ [y0,y1,y2,y3] _ rfl (qIk w4 B0 B1 B2 B3 f0 f1 f2 f3 y0 y1 y2 y3 Y0.out.1 Y1.out.1 Y2.out.1 Y3.out.1 Y0.out.2 Y1.out.2 Y2.out.2 Y3.out.2) HZ.out (by simp)).mono ?_;rintro e w5 ⟨u5,rfl,hown5,hb5⟩;have HO5:=qAg hown5;have Hb5:=qAg hb5;have HC5:=qAg ((HC4.out.below (Below.alloc (qAk _ _) (qAi _) _) HS4.out).below hb5 (by simp;have:=HS4.out;omega));clear hown5 hb5))
 go_wp2_with fail
 go_ret;refine⟨_,rfl,?_,(HB4.out.alloc HB4.out.size _).trans (Hb5.out.mono (by simp;have:=HB4.out.size;omega))⟩;rw[HI.out];exact qBQ HO5.out (by simp;have:=HB4.out.size;omega)
theorem qFe (A:Option Addr) (n c:Nat) (xs:List (List Typ)) (w:World) (hl:xs.length=n) (h:Sq tysL (·<w.heap.size) w A xs) (hn2:n≤1000000) (hn:(lB (lB tB) xs).length≤1000000)
 (hP:∀(w1:World) (cs:List Value) (x:(List Typ)),x∈xs→tysL.R (·<w1.heap.size) w1 cs x→Calls Tryz.prog 51 #[vOne cs] w1 (Puts ((lB tB) x) w1)):
 Calls Tryz.prog 50 #[.slice A n c,.func (.func 51) #[] #[]] w (Puts (lB (lB tB) xs) w):=by
 refine jq ?_;intro HN HL HS HP0;clear hl h hn hP;have hn3:n<B64:=by unfold B64;omega
 go_enter Tryz.func50,Tryz.ntmps50
 go_wp2_with fail
 refine(qBN n w hn3).mono ?_;rintro e w1 ⟨u1,rfl,hown1,hb1⟩;refine qAA ?_;intro HO1 HB1;clear hown1 hb1
 go_wp2_with fail
 go_loopw [5,14] (fun s i wr=>∃k:Nat,k≤n∧i= .int .i64 (k:Nat)∧(∃q,q=vb n++((xs.take k).map (lB tB)).flatten∧q.length≤1000000∧wr.ownsRow w.heap.size 5 1 s q.length (Bs q))∧Below w.heap.size w wr) (fun _ i _=>n-(intOf i).toNat)
 case atStart=>
  exact qM
 case round=>
  obtain⟨k,hk,rfl,⟨q,hq,hq2,hown⟩,hbel⟩:=hrel;refine jZ ?_;intro HO HB HQ hs;clear hown hbel hq
  by_cases hlt:k<n
  · skip
    refine z7 ?_;intro x hx hmem;obtain⟨a,cs,rfl,hab,hc,hr⟩:=HS.out.at hx;have HF:=qAg (qBJ (lB tB) xs k x hx);have hle2:=qBd (lB tB) xs (k+1);rw[HF.out,List.length_append] at hle2;have hq3:q.length+((lB tB) x).length≤1000000:=by
     have:=HN.out;simp only[lB,List.length_append,HL.out] at this;rw[HQ.out,List.length_append]
     omega
    clear hle2 hx;have HR:=qAg hr;obtain⟨A2,d2,rfl,-,-,-⟩:=hr;have c0:=(HB.out.cell (p:=a.add k) qB).trans (qBI (K:=tysL.k) rfl (hc 0 _ rfl));have HP:Hid (∀w1,Below w.heap.size w w1→Calls Tryz.prog 51 #[.slice A2 x.length d2] w1 (Puts ((lB tB) x) w1)):=fun w1 hb=>HP0.out w1 [.slice A2 x.length d2] x hmem (tysL.wide (tysL.keep HR.out fun b hb1=>hb.block b hb1) fun b hb1=>qAh hb1 hb.size);clear hc;obtain⟨y,hy⟩:∃y,(lB tB) x=y:=⟨_,rfl⟩;rw[hy] at hq3 HP;have HY:=qAg hy;clear hy
    go_wp2_with (first
     |(go_at_call 51
       refine(HP.out _ (HB.out)).mono ?_;rintro e w2 ⟨u2,rfl,hown2,hb2⟩;obtain⟨A3,c3,rfl,-,-,-,hB2⟩:=qAu hown2;refine qAD ?_;intro HB2 HO2 Hb2 hs2;clear hown2 hB2 hb2)
     |(at_builtin
       refine qAt _ rfl (.tmp 18) (.tmp 21) rfl w.heap.size u5 q.length q rfl HO2.out A3 y.length c3 y rfl rfl _ HB2.out (by omega) (by omega) ?_;intro v4 w4 hown4 hg4 _;refine qAf ?_;intro HO4 HG4;clear hown4 hg4))
    exact qF
  · obtain rfl:k=n:=by omega
    go_wp2_with fail
    go_ret;refine⟨_,rfl,?_,HB.out⟩;have e:lB (lB tB) xs=q:=by
     rw[HQ.out,qAn qO,lB,HL.out]
    rw[e];exact HO.out
theorem qGf (A:Option Addr) (n c:Nat) (xs:List Fn) (w:World) (hl:xs.length=n) (h:Sq fnL (·<w.heap.size) w A xs) (hn2:n≤1000000) (hn:(lB fnB xs).length≤1000000)
 (hP:∀(w1:World) (cs:List Value) (x:Fn),x∈xs→fnL.R (·<w1.heap.size) w1 cs x→Calls Tryz.prog 53 #[vAgg cs] w1 (Puts (fnB x) w1)):
 Calls Tryz.prog 52 #[.slice A n c,.func (.func 53) #[] #[]] w (Puts (lB fnB xs) w):=by
 refine jq ?_;intro HN HL HS HP0;clear hl h hn hP;have hn3:n<B64:=by unfold B64;omega
 go_enter Tryz.func52,Tryz.ntmps52
 go_wp2_with fail
 refine(qBN n w hn3).mono ?_;rintro e w1 ⟨u1,rfl,hown1,hb1⟩;refine qAA ?_;intro HO1 HB1;clear hown1 hb1
 go_wp2_with fail
 go_loopw [5,14] (fun s i wr=>∃k:Nat,k≤n∧i= .int .i64 (k:Nat)∧(∃q,q=vb n++((xs.take k).map fnB).flatten∧q.length≤1000000∧wr.ownsRow w.heap.size 5 1 s q.length (Bs q))∧Below w.heap.size w wr) (fun _ i _=>n-(intOf i).toNat)
 case atStart=>
  exact qM
 case round=>
  obtain⟨k,hk,rfl,⟨q,hq,hq2,hown⟩,hbel⟩:=hrel;refine jZ ?_;intro HO HB HQ hs;clear hown hbel hq
  by_cases hlt:k<n
  · skip
    refine z7 ?_;intro x hx hmem;obtain⟨a,cs,rfl,hab,hc,hr⟩:=HS.out.at hx;have HF:=qAg (qBJ fnB xs k x hx);have hle2:=qBd fnB xs (k+1);rw[HF.out,List.length_append] at hle2;have hq3:q.length+(fnB x).length≤1000000:=by
     have:=HN.out;simp only[lB,List.length_append,HL.out] at this;rw[HQ.out,List.length_append]
     omega
    clear hle2 hx;have HR:=qAg hr;obtain⟨p0,p1,p2,rfl,-,-,⟨A4,d4,e4,-⟩,⟨A5,d5,e5,-⟩,⟨A6,d6,e6,-⟩⟩:=hr;simp only[List.cons.injEq,and_true] at e4 e5 e6;subst e4 e5 e6;refine qAJ ?_;intro c0 c1;rw[qAm a (k*5) 1 (by omega)] at c1;have c2:=(HB.out.cell (p:=a.add (k*5+2)) qB).trans (hc 2 _ rfl);rw[qAm a (k*5) 2 (by omega)] at c2;have c3:=(HB.out.cell (p:=a.add (k*5+3)) qB).trans (hc 3 _ rfl);rw[qAm a (k*5) 3 (by omega)] at c3;have c4:=(HB.out.cell (p:=a.add (k*5+4)) qB).trans (hc 4 _ rfl);rw[qAm a (k*5) 4 (by omega)] at c4;have HP:Hid (∀w1,Below w.heap.size w w1→Calls Tryz.prog 53 #[.agg #[.slice A4 x.args.length d4,.int .i64 x.ret.1,.int .i64 x.ret.2,.slice A5 x.locs.length d5,.slice A6 x.code.length d6]] w1 (Puts (fnB x) w1)):=fun w1 hb=>HP0.out w1 [.slice A4 x.args.length d4,.int .i64 x.ret.1,.int .i64 x.ret.2,.slice A5 x.locs.length d5,.slice A6 x.code.length d6] x hmem (fnL.wide (fnL.keep HR.out fun b hb1=>hb.block b hb1) fun b hb1=>qAh hb1 hb.size);clear hc;obtain⟨y,hy⟩:∃y,fnB x=y:=⟨_,rfl⟩;rw[hy] at hq3 HP;have HY:=qAg hy;clear hy
    go_wp2_with (first
     |(go_at_call 53
       refine(HP.out _ (HB.out.alloc hs _)).mono ?_;rintro e w2 ⟨u2,rfl,hown2,hb2⟩;obtain⟨A3,c3,rfl,-,-,-,hB2⟩:=qAu hown2;refine jf ?_;intro HB2 HO2 Hb2 hs2;clear hown2 hB2 hb2)
     |(at_builtin
       refine qAt _ rfl (.tmp 18) (.tmp 21) rfl w.heap.size u5 q.length q rfl HO2.out A3 y.length c3 y rfl rfl _ HB2.out (by omega) (by omega) ?_;intro v4 w4 hown4 hg4 _;refine qAf ?_;intro HO4 HG4;clear hown4 hg4))
    exact qF
  · obtain rfl:k=n:=by omega
    go_wp2_with fail
    go_ret;refine⟨_,rfl,?_,HB.out⟩;have e:lB fnB xs=q:=by
     rw[HQ.out,qAn qO,lB,HL.out]
    rw[e];exact HO.out
theorem qFh (A:Option Addr) (n c:Nat) (xs:List Imp) (w:World) (hl:xs.length=n) (h:Sq impL (·<w.heap.size) w A xs) (hn2:n≤1000000) (hn:(lB impB xs).length≤1000000)
 (hP:∀(w1:World) (cs:List Value) (x:Imp),x∈xs→impL.R (·<w1.heap.size) w1 cs x→Calls Tryz.prog 55 #[vAgg cs] w1 (Puts (impB x) w1)):
 Calls Tryz.prog 54 #[.slice A n c,.func (.func 55) #[] #[]] w (Puts (lB impB xs) w):=by
 refine jq ?_;intro HN HL HS HP0;clear hl h hn hP;have hn3:n<B64:=by unfold B64;omega
 go_enter Tryz.func54,Tryz.ntmps54
 go_wp2_with fail
 refine(qBN n w hn3).mono ?_;rintro e w1 ⟨u1,rfl,hown1,hb1⟩;refine qAA ?_;intro HO1 HB1;clear hown1 hb1
 go_wp2_with fail
 go_loopw [5,14] (fun s i wr=>∃k:Nat,k≤n∧i= .int .i64 (k:Nat)∧(∃q,q=vb n++((xs.take k).map impB).flatten∧q.length≤1000000∧wr.ownsRow w.heap.size 5 1 s q.length (Bs q))∧Below w.heap.size w wr) (fun _ i _=>n-(intOf i).toNat)
 case atStart=>
  exact qM
 case round=>
  obtain⟨k,hk,rfl,⟨q,hq,hq2,hown⟩,hbel⟩:=hrel;refine jZ ?_;intro HO HB HQ hs;clear hown hbel hq
  by_cases hlt:k<n
  · skip
    refine z7 ?_;intro x hx hmem;obtain⟨a,cs,rfl,hab,hc,hr⟩:=HS.out.at hx;have HF:=qAg (qBJ impB xs k x hx);have hle2:=qBd impB xs (k+1);rw[HF.out,List.length_append] at hle2;have hq3:q.length+(impB x).length≤1000000:=by
     have:=HN.out;simp only[lB,List.length_append,HL.out] at this;rw[HQ.out,List.length_append]
     omega
    clear hle2 hx;have HR:=qAg hr;obtain⟨p0,rfl,-,-,⟨A4,d4,e4,-⟩⟩:=hr;simp only[List.cons.injEq,and_true] at e4;subst e4;refine jT ?_;intro c0 c1;rw[qAm a (k*3) 1 (by omega)] at c1;refine qAI ?_;intro c2;rw[qAm a (k*3) 2 (by omega)] at c2;have HP:Hid (∀w1,Below w.heap.size w w1→Calls Tryz.prog 55 #[.agg #[.slice A4 x.args.length d4,.int .i64 x.ret.1,.int .i64 x.ret.2]] w1 (Puts (impB x) w1)):=fun w1 hb=>HP0.out w1 [.slice A4 x.args.length d4,.int .i64 x.ret.1,.int .i64 x.ret.2] x hmem (impL.wide (impL.keep HR.out fun b hb1=>hb.block b hb1) fun b hb1=>qAh hb1 hb.size);clear hc;obtain⟨y,hy⟩:∃y,impB x=y:=⟨_,rfl⟩;rw[hy] at hq3 HP;have HY:=qAg hy;clear hy
    go_wp2_with (first
     |(go_at_call 55
       refine(HP.out _ (HB.out.alloc hs _)).mono ?_;rintro e w2 ⟨u2,rfl,hown2,hb2⟩;obtain⟨A3,c3,rfl,-,-,-,hB2⟩:=qAu hown2;refine jf ?_;intro HB2 HO2 Hb2 hs2;clear hown2 hB2 hb2)
     |(at_builtin
       refine qAt _ rfl (.tmp 18) (.tmp 21) rfl w.heap.size u5 q.length q rfl HO2.out A3 y.length c3 y rfl rfl _ HB2.out (by omega) (by omega) ?_;intro v4 w4 hown4 hg4 _;refine qAf ?_;intro HO4 HG4;clear hown4 hg4))
    exact qF
  · obtain rfl:k=n:=by omega
    go_wp2_with fail
    go_ret;refine⟨_,rfl,?_,HB.out⟩;have e:lB impB xs=q:=by
     rw[HQ.out,qAn qO,lB,HL.out]
    rw[e];exact HO.out
theorem qFf (A:Option Addr) (n c:Nat) (xs:List Nat) (w:World) (hl:xs.length=n) (h:Sq numL (·<w.heap.size) w A xs) (hn2:n≤1000000) (hn:(lB numB xs).length≤1000000)
 (hP:∀(w1:World) (cs:List Value) (x:Nat),x∈xs→numL.R (·<w1.heap.size) w1 cs x→Calls Tryz.prog 57 #[vOne cs] w1 (Puts (numB x) w1)):
 Calls Tryz.prog 56 #[.slice A n c,.func (.func 57) #[] #[]] w (Puts (lB numB xs) w):=by
 refine jq ?_;intro HN HL HS HP0;clear hl h hn hP;have hn3:n<B64:=by unfold B64;omega
 go_enter Tryz.func56,Tryz.ntmps56
 go_wp2_with fail
 refine(qBN n w hn3).mono ?_;rintro e w1 ⟨u1,rfl,hown1,hb1⟩;refine qAA ?_;intro HO1 HB1;clear hown1 hb1
 go_wp2_with fail
 go_loopw [5,14] (fun s i wr=>∃k:Nat,k≤n∧i= .int .i64 (k:Nat)∧(∃q,q=vb n++((xs.take k).map numB).flatten∧q.length≤1000000∧wr.ownsRow w.heap.size 5 1 s q.length (Bs q))∧Below w.heap.size w wr) (fun _ i _=>n-(intOf i).toNat)
 case atStart=>
  exact qM
 case round=>
  obtain⟨k,hk,rfl,⟨q,hq,hq2,hown⟩,hbel⟩:=hrel;refine jZ ?_;intro HO HB HQ hs;clear hown hbel hq
  by_cases hlt:k<n
  · skip
    refine z7 ?_;intro x hx hmem;obtain⟨a,cs,rfl,hab,hc,hr⟩:=HS.out.at hx;have HF:=qAg (qBJ numB xs k x hx);have hle2:=qBd numB xs (k+1);rw[HF.out,List.length_append] at hle2;have hq3:q.length+(numB x).length≤1000000:=by
     have:=HN.out;simp only[lB,List.length_append,HL.out] at this;rw[HQ.out,List.length_append]
     omega
    clear hle2 hx;have HR:=qAg hr;obtain⟨rfl,-⟩:=hr;have c0:=(HB.out.cell (p:=a.add k) qB).trans (qBI (K:=numL.k) rfl (hc 0 _ rfl));have HP:Hid (∀w1,Below w.heap.size w w1→Calls Tryz.prog 57 #[.int .u64 (x:Int)] w1 (Puts (numB x) w1)):=fun w1 hb=>HP0.out w1 [.int .u64 (x:Int)] x hmem (numL.wide (numL.keep HR.out fun b hb1=>hb.block b hb1) fun b hb1=>qAh hb1 hb.size);clear hc;obtain⟨y,hy⟩:∃y,numB x=y:=⟨_,rfl⟩;rw[hy] at hq3 HP;have HY:=qAg hy;clear hy
    go_wp2_with (first
     |(go_at_call 57
       refine(HP.out _ (HB.out)).mono ?_;rintro e w2 ⟨u2,rfl,hown2,hb2⟩;obtain⟨A3,c3,rfl,-,-,-,hB2⟩:=qAu hown2;refine qAD ?_;intro HB2 HO2 Hb2 hs2;clear hown2 hB2 hb2)
     |(at_builtin
       refine qAt _ rfl (.tmp 18) (.tmp 21) rfl w.heap.size u5 q.length q rfl HO2.out A3 y.length c3 y rfl rfl _ HB2.out (by omega) (by omega) ?_;intro v4 w4 hown4 hg4 _;refine qAf ?_;intro HO4 HG4;clear hown4 hg4))
    exact qF
  · obtain rfl:k=n:=by omega
    go_wp2_with fail
    go_ret;refine⟨_,rfl,?_,HB.out⟩;have e:lB numB xs=q:=by
     rw[HQ.out,qAn qO,lB,HL.out]
    rw[e];exact HO.out
theorem qFd (A:Option Addr) (n c:Nat) (xs:List (List Nat)) (w:World) (hl:xs.length=n) (h:Sq strL (·<w.heap.size) w A xs) (hn2:n≤1000000) (hn:(lB pt xs).length≤1000000)
 (hP:∀(w1:World) (cs:List Value) (x:(List Nat)),x∈xs→strL.R (·<w1.heap.size) w1 cs x→Calls Tryz.prog 59 #[vOne cs] w1 (Puts (pt x) w1)):
 Calls Tryz.prog 58 #[.slice A n c,.func (.func 59) #[] #[]] w (Puts (lB pt xs) w):=by
 refine jq ?_;intro HN HL HS HP0;clear hl h hn hP;have hn3:n<B64:=by unfold B64;omega
 go_enter Tryz.func58,Tryz.ntmps58
 go_wp2_with fail
 refine(qBN n w hn3).mono ?_;rintro e w1 ⟨u1,rfl,hown1,hb1⟩;refine qAA ?_;intro HO1 HB1;clear hown1 hb1
 go_wp2_with fail
 go_loopw [5,14] (fun s i wr=>∃k:Nat,k≤n∧i= .int .i64 (k:Nat)∧(∃q,q=vb n++((xs.take k).map pt).flatten∧q.length≤1000000∧wr.ownsRow w.heap.size 5 1 s q.length (Bs q))∧Below w.heap.size w wr) (fun _ i _=>n-(intOf i).toNat)
 case atStart=>
  exact qM
 case round=>
  obtain⟨k,hk,rfl,⟨q,hq,hq2,hown⟩,hbel⟩:=hrel;refine jZ ?_;intro HO HB HQ hs;clear hown hbel hq
  by_cases hlt:k<n
  · skip
    refine z7 ?_;intro x hx hmem;obtain⟨a,cs,rfl,hab,hc,hr⟩:=HS.out.at hx;have HF:=qAg (qBJ pt xs k x hx);have hle2:=qBd pt xs (k+1);rw[HF.out,List.length_append] at hle2;have hq3:q.length+(pt x).length≤1000000:=by
     have:=HN.out;simp only[lB,List.length_append,HL.out] at this;rw[HQ.out,List.length_append]
     omega
    clear hle2 hx;have HR:=qAg hr;obtain⟨s0,rfl,-⟩:=hr;have c0:=(HB.out.cell (p:=a.add k) qB).trans (qBI (K:=strL.k) rfl (hc 0 _ rfl));have HP:Hid (∀w1,Below w.heap.size w w1→Calls Tryz.prog 59 #[.string s0] w1 (Puts (pt x) w1)):=fun w1 hb=>HP0.out w1 [.string s0] x hmem (strL.wide (strL.keep HR.out fun b hb1=>hb.block b hb1) fun b hb1=>qAh hb1 hb.size);clear hc;obtain⟨y,hy⟩:∃y,pt x=y:=⟨_,rfl⟩;rw[hy] at hq3 HP;have HY:=qAg hy;clear hy
    go_wp2_with (first
     |(go_at_call 59
       refine(HP.out _ (HB.out)).mono ?_;rintro e w2 ⟨u2,rfl,hown2,hb2⟩;obtain⟨A3,c3,rfl,-,-,-,hB2⟩:=qAu hown2;refine qAD ?_;intro HB2 HO2 Hb2 hs2;clear hown2 hB2 hb2)
     |(at_builtin
       refine qAt _ rfl (.tmp 18) (.tmp 21) rfl w.heap.size u5 q.length q rfl HO2.out A3 y.length c3 y rfl rfl _ HB2.out (by omega) (by omega) ?_;intro v4 w4 hown4 hg4 _;refine qAf ?_;intro HO4 HG4;clear hown4 hg4))
    exact qF
  · obtain rfl:k=n:=by omega
    go_wp2_with fail
    go_ret;refine⟨_,rfl,?_,HB.out⟩;have e:lB pt xs=q:=by
     rw[HQ.out,qAn qO,lB,HL.out]
    rw[e];exact HO.out
theorem qJJ (A:Option Addr) (n c:Nat) (xss:List (List Nat)) (w:World) (hl:xss.length=n) (hR:Rws (·<w.heap.size) w A xss) (hn:(joinB xss).length≤1000000):
 Calls Tryz.prog 49 #[.slice A n c] w fun e w'=>∃v,e= .returned v∧w'.ownsRow w.heap.size 5 1 v (joinB xss).length (Bs (joinB xss))∧Below w.heap.size w w':=by
 have hn2:n≤1000000:=by have:=qFj xss;rw[qBW] at hn;omega
 have HN:=qAg hn;have HL:=qAg hl;have HR:=qAg hR;clear hl hR hn;have hn3:n<B64:=by unfold B64;omega
 go_enter Tryz.func49,Tryz.ntmps49
 go_wp2_with fail
 refine(qBN n w hn3).mono ?_;rintro e w1 ⟨u1,rfl,hown1,hb1⟩;refine qAA ?_;intro HO1 HB1;clear hown1 hb1
 go_wp2_with fail
 go_loopw [3,12] (fun s i wr=>∃k:Nat,k≤n∧i= .int .i64 (k:Nat)∧(∃q,q=vb n++pts (xss.take k)∧q.length≤1000000∧wr.ownsRow w.heap.size 5 1 s q.length (Bs q))∧Below w.heap.size w wr) (fun _ i _=>n-(intOf i).toNat)
 case atStart=>
  exact zQ
 case round=>
  obtain⟨k,hk,rfl,⟨q,hq,hq2,hown⟩,hbel⟩:=hrel;refine jZ ?_;intro HO HB HQ hs;clear hown hbel hq
  by_cases hlt:k<n
  · obtain⟨a,B,c2,rfl,hab,hcell,_,hBy⟩:=HR.out.at (k:=k) qS
    have hcell2:=(HB.out.cell (p:=a.add k) qB).trans hcell;have HF:=qAg (qFi xss k qS);have hle2:=qI4 xss (k+1);rw[HF.out,List.length_append,qCZ] at hle2;obtain⟨x,hx⟩:∃x,xss[k]?.getD []=x:=⟨_,rfl⟩;rw[hx] at hcell hle2 hcell2 hBy;have HX:=qAg hx;have HY:=qAg hBy;clear hx hcell hBy;have hq3:q.length+(vb x.length).length+x.length≤1000000:=by
     have:=HN.out;rw[qBW,HL.out] at this;rw[HQ.out,List.length_append]
     omega
    clear hle2;have hx64:x.length<B64:=by unfold B64;omega
    go_wp2_with fail
    refine(qBN x.length wr hx64).mono ?_;rintro e w2 ⟨u2,rfl,hown2,hb2⟩;obtain⟨A2,c3,rfl,-,-,-,hB2⟩:=qAu hown2;have HB2:=qAg hB2;have Hb2:=qAg hb2;have HO2:=qAg (qA0 HO.out hb2 (qAi _));have hs2:=hb2.size;clear hown2 hB2 hb2
    go_wp2_with (first
     |(at_builtin
       refine qAt _ rfl (.tmp 16) (.tmp 20) rfl w.heap.size u3 q.length q rfl HO2.out A2 (vb x.length).length c3 (vb x.length) rfl rfl _ HB2.out (by omega) (by omega) ?_;intro v3 w3 hown3 hg3 _;have HO3:=qAg hown3;have HG3:=qAg hg3;have HB3:=qAg ((HB.out.trans (Hb2.out.mono (by omega))).grown hg3 (by omega) (fun i hi=>(HO.out.lt i hi).1));have hs3:=hg3.size;clear hown3 hg3)
     |(at_builtin
       refine qAt _ rfl (.tmp 22) (.tmp 23) rfl w.heap.size v3 (q.length+(vb x.length).length) (q++vb x.length) rfl HO3.out B x.length c2 x rfl rfl (·<w.heap.size) (HY.out.below HB3.out (qAi _)) (by omega) (by omega) ?_;intro v4 w4 hown4 hg4 _;refine qAf ?_;intro HO4 HG4;clear hown4 hg4))
    refine⟨⟨k+1,by omega,by simp,⟨q++vb x.length++x,?_,?_,?_⟩,HB3.out.grown HG4.out (by omega) (fun i hi=>(HO3.out.lt i hi).1)⟩,by simp[intOf];omega⟩
    · rw[HF.out,HQ.out,HX.out,pt]
      simp[List.append_assoc]
    · simp[List.length_append]
      omega
    · exact zt
  · obtain rfl:k=n:=by omega
    go_wp2_with fail
    go_ret;refine⟨_,rfl,?_,HB.out⟩;have e:joinB xss=q:=by
     rw[HQ.out,qAn qO,joinB,HL.out]
    rw[e];exact HO.out
theorem qFV (w:World) (A0 A1 A2 A3 A4:Option Addr) (c0 c1 c2 c3 c4:Nat) (x0 x1 x2 x3 x4:List Nat) (h0:Yb w A0 c0 x0) (h1:Yb w A1 c1 x1) (h2:Yb w A2 c2 x2) (h3:Yb w A3 c3 x3) (h4:Yb w A4 c4 x4):
 Rws (·<(w.alloc (.cells #[.slice A0 x0.length c0,.slice A1 x1.length c1,.slice A2 x2.length c2,.slice A3 x3.length c3,.slice A4 x4.length c4] 62)).heap.size)
  (w.alloc (.cells #[.slice A0 x0.length c0,.slice A1 x1.length c1,.slice A2 x2.length c2,.slice A3 x3.length c3,.slice A4 x4.length c4] 62)) (some ⟨w.heap.size,0,none⟩) [x0,x1,x2,x3,x4]:=fun _=>by
 refine⟨_,rfl,by simp,fun j hj=> ?_⟩;refine qAK ?_;intro hk e;rw[e,World.cell?_alloc_mark]
 match j,hj with
 |0,_=>exact⟨A0,c0,rfl,h0.1,(h0.2.keep (hk _)).wide fun b hb=>by simp;omega⟩
 |1,_=>exact⟨A1,c1,rfl,h1.1,(h1.2.keep (hk _)).wide fun b hb=>by simp;omega⟩
 |2,_=>exact⟨A2,c2,rfl,h2.1,(h2.2.keep (hk _)).wide fun b hb=>by simp;omega⟩
 |3,_=>exact⟨A3,c3,rfl,h3.1,(h3.2.keep (hk _)).wide fun b hb=>by simp;omega⟩
 |4,_=>exact⟨A4,c4,rfl,h4.1,(h4.2.keep (hk _)).wide fun b hb=>by simp;omega⟩
 |j+5,hj=>exact absurd hj (by simp)
def Encodes (m:Mod) (w:World) (e:Ending) (w':World):Prop:=
 Below w.heap.size w w'∧((fitB m=false∧e= .returned (.tuple #[.slice none 0 0,.int .i64 2]))∨
  (fitB m=true∧∃u,e= .returned (.tuple #[u,.int .i64 0])∧w'.ownsRow w.heap.size 5 1 u (modB m).length (Bs (modB m))))
theorem qG3 (cs:List Value) (x:Mod) (w:World) (h:modL.R (·<w.heap.size) w cs x):Calls Tryz.prog 35 #[vAgg cs] w (Encodes x w):=by
 have TF:Hid (∀w1,Below w.heap.size w w1→Calls Tryz.prog 48 #[vAgg cs] w1 (Tells (fitB x) w1)):=fun w1 hb=>qJd cs x w1 (modL.wide (modL.keep h fun b hb1=>hb.block b hb1) fun b hb1=>qAh hb1 hb.size);obtain⟨_,_,_,_,_,rfl,⟨A0,d0,e0,l0,m0,s0⟩,⟨A1,d1,e1,l1,m1,s1⟩,⟨A2,d2,e2,l2,m2,s2⟩,⟨A3,d3,e3,l3,m3,s3⟩,⟨A4,d4,e4,l4,m4,s4⟩⟩:=h;simp only[List.cons.injEq,and_true] at e0 e1 e2 e3 e4;subst e0 e1 e2 e3 e4;have TF2:Hid (∀w1,Below w.heap.size w w1→Calls Tryz.prog 48 #[.agg #[.slice A0 x.recs.length d0,.slice A1 x.funcs.length d1,.slice A2 x.imps.length d2,.slice A3 x.ints.length d3,.slice A4 x.texts.length d4]] w1 (Tells (fitB x) w1)):=TF.out;clear TF
 show Calls Tryz.prog 35 #[.agg #[.slice A0 x.recs.length d0,.slice A1 x.funcs.length d1,.slice A2 x.imps.length d2,.slice A3 x.ints.length d3,.slice A4 x.texts.length d4]] w (Encodes x w)
 refine jW ?_;intro HB0
 cases hf:fitB x
 · rw[hf] at TF2
   have HF:=qAg hf;generalize x.recs.length=n0 at*;generalize x.funcs.length=n1 at*;generalize x.imps.length=n2 at*;generalize x.ints.length=n3 at*;generalize x.texts.length=n4 at*;clear hf s0 s1 s2 s3 s4 m0 m1 m2 m3 m4
   go_enter Tryz.func35,Tryz.ntmps35
   go_wp2_with (first
    |(go_at_call 48
      refine(TF2.out _ (HB0.out _)).mono ?_;rintro e w1 ⟨rfl,hb1⟩;refine jU ?_;intro HB1;clear hb1))
   go_ret2;exact⟨HB1.out,.inl ⟨HF.out,rfl⟩⟩
 · rw[hf] at TF2
   have hF:=qA1.1 hf;have HF:=qAg hf;have hpl:=hF.parts_len;have p0:=hpl 0 (by simp[partsB]);have p1:=hpl 1 (by simp[partsB]);have p2:=hpl 2 (by simp[partsB]);have p3:=hpl 3 (by simp[partsB]);have p4:=hpl 4 (by simp[partsB]);simp[partsB] at p0 p1 p2 p3 p4;have r8:=hF.r8;have f8:=hF.f8;have i8:=hF.i8;have n16:=hF.n16;have t16:=hF.t16;refine z9 ?_;intro n0 h0 n1 h1 n2 h2;refine jx ?_;intro n3 h3 n4 h4;obtain⟨y0,hy0⟩:∃y,lB (lB tB) x.recs=y:=⟨_,rfl⟩;obtain⟨y1,hy1⟩:∃y,lB fnB x.funcs=y:=⟨_,rfl⟩;obtain⟨y2,hy2⟩:∃y,lB impB x.imps=y:=⟨_,rfl⟩;obtain⟨y3,hy3⟩:∃y,lB numB x.ints=y:=⟨_,rfl⟩;obtain⟨y4,hy4⟩:∃y,lB pt x.texts=y:=⟨_,rfl⟩;have P0:Hid (∀w1,Below w.heap.size w w1→Calls Tryz.prog 50 #[.slice A0 n0 d0,.func (.func 51) #[] #[]] w1 (Puts y0 w1)):=fun w1 hb=>by
    rw[←hy0];refine qFe A0 n0 d0 x.recs w1 h0 ((s0.keep fun b hb1=>hb.block b hb1).wide fun b hb1=>qAh hb1 hb.size) (by omega) (by omega) fun w2 cs y hy hr=> ?_;obtain⟨A,c,rfl,l1,l2,l3⟩:=hr;have hz:=qEf (hF.recs y hy);have hzl:=qBy hF.r8 (by omega) hz.2;exact qBo A y.length c y w2 rfl l3 (by omega) (by omega)
   have P1:Hid (∀w1,Below w.heap.size w w1→Calls Tryz.prog 52 #[.slice A1 n1 d1,.func (.func 53) #[] #[]] w1 (Puts y1 w1)):=fun w1 hb=>by
    rw[←hy1];exact qGf A1 n1 d1 x.funcs w1 h1 ((s1.keep fun b hb1=>hb.block b hb1).wide fun b hb1=>qAh hb1 hb.size) (by omega) (by omega) fun w2 cs y hy hr=>qDd cs y _ w2 hF.r8 (hF.funcs y hy) hr
   have P2:Hid (∀w1,Below w.heap.size w w1→Calls Tryz.prog 54 #[.slice A2 n2 d2,.func (.func 55) #[] #[]] w1 (Puts y2 w1)):=fun w1 hb=>by
    rw[←hy2];exact qFh A2 n2 d2 x.imps w1 h2 ((s2.keep fun b hb1=>hb.block b hb1).wide fun b hb1=>qAh hb1 hb.size) (by omega) (by omega) fun w2 cs y hy hr=>qEW cs y _ w2 hF.r8 (hF.imps y hy) hr
   have P3:Hid (∀w1,Below w.heap.size w w1→Calls Tryz.prog 56 #[.slice A3 n3 d3,.func (.func 57) #[] #[]] w1 (Puts y3 w1)):=fun w1 hb=>by
    rw[←hy3];refine qFf A3 n3 d3 x.ints w1 h3 ((s3.keep fun b hb1=>hb.block b hb1).wide fun b hb1=>qAh hb1 hb.size) (by omega) (by omega) fun w2 cs y hy hr=> ?_;obtain⟨rfl,hy64⟩:=hr;exact qFb y w2 hy64
   have P4:Hid (∀w1,Below w.heap.size w w1→Calls Tryz.prog 58 #[.slice A4 n4 d4,.func (.func 59) #[] #[]] w1 (Puts y4 w1)):=fun w1 hb=>by
    rw[←hy4];refine qFd A4 n4 d4 x.texts w1 h4 ((s4.keep fun b hb1=>hb.block b hb1).wide fun b hb1=>qAh hb1 hb.size) (by omega) (by omega) fun w2 cs y hy hr=> ?_;obtain⟨s,rfl,rfl⟩:=hr;exact qHr s w2 (by have:=hF.texts _ hy;omega)
   have hlen:=hF.len;have HI:Hid (modB x=joinB [y0,y1,y2,y3,y4]):=by show modB x=_;rw[←hy0,←hy1,←hy2,←hy3,←hy4];rfl
   have HZ:Hid ((joinB [y0,y1,y2,y3,y4]).length≤1000000):=by show(joinB _).length≤_;rw[←HI.out];omega
   rw[h0,h1,h2,h3,h4] at TF2⊢;clear hF hf hpl p0 p1 p2 p3 p4 r8 f8 i8 n16 t16 h0 h1 h2 h3 h4 hy0 hy1 hy2 hy3 hy4 s0 s1 s2 s3 s4 l0 l1 l2 l3 l4 m0 m1 m2 m3 m4 hlen
   go_enter Tryz.func35,Tryz.ntmps35
   have HC:Hid (C5 w.heap.size (.slice A0 n0 d0) (.slice A1 n1 d1) (.slice A2 n2 d2) (.slice A3 n3 d3) (.slice A4 n4 d4) (w.alloc (.cells #[.slice A0 n0 d0,.slice A1 n1 d1,.slice A2 n2 d2,.slice A3 n3 d3,.slice A4 n4 d4] 28))):=by show C5 _ _ _ _ _ _ _;simp[C5,go_sem]
   go_wp2_with (first
    |(go_at_call 48
      refine(TF2.out _ (HB0.out _)).mono ?_;rintro e W ⟨rfl,hb1⟩;have HB:=qAg ((HB0.out _).trans (hb1.mono (by simp)));have HC0:=qAg (HC.out.below hb1 (by simp));have hs:w.heap.size<W.heap.size:=qR;clear hb1))
   obtain⟨z0,z1,z2,z3,z4⟩:=HC0.out
   go_region_held3 (fun w'=>w'.cell? ⟨w.heap.size,0,none⟩=some (.slice A0 n0 d0)∧w'.cell? ⟨w.heap.size,1,none⟩=some (.slice A1 n1 d1)∧w'.cell? ⟨w.heap.size,2,none⟩=some (.slice A2 n2 d2)∧w'.cell? ⟨w.heap.size,3,none⟩=some (.slice A3 n3 d3)∧w'.cell? ⟨w.heap.size,4,none⟩=some (.slice A4 n4 d4))
    (first|exact HC6.out|exact HC5.out|exact HC5.out.below (Below.alloc (qAk _ _) (qAi _) _) HS5.out|exact HC4.out|exact HC3.out|exact HC2.out|exact HC1.out|exact HC0.out)
    (first
      |(go_at_call 50
        refine(P0.out _ HB.out.drew).mono ?_;rintro e w1 ⟨u1,rfl,hown1,hb1⟩;obtain⟨B0,f0,rfl,hy0⟩:=Yb.of hown1;have Y0a:=qAg hy0;have HB1:=qAg (HB.out.drew.trans (hb1.mono HB.out.size));have HC1:=qAg (C5.below (w:=W.drew) HC0.out hb1 hs);have HS1:=qAg (qAh hs hb1.size);clear hown1 hb1 hy0)
      |(go_at_call 52
        refine(P1.out _ HB1.out).mono ?_;rintro e w2 ⟨u2,rfl,hown2,hb2⟩;obtain⟨B1,f1,rfl,hy1⟩:=Yb.of hown2;have Y0b:=qAg (Y0a.out.below hb2);have Y1a:=qAg hy1;refine jX ?_;intro HB2;have HC2:=qAg (HC1.out.below hb2 HS1.out);have HS2:=qAg (qAh HS1.out hb2.size);clear hown2 hb2 hy1)
      |(go_at_call 54
        refine(P2.out _ HB2.out).mono ?_;rintro e w3 ⟨u3,rfl,hown3,hb3⟩;obtain⟨B2,f2,rfl,hy2⟩:=Yb.of hown3;refine qAL ?_;intro Y0c Y1b Y2a HB3 HC3 HS3;clear hown3 hb3 hy2)
      |(go_at_call 56
        refine(P3.out _ HB3.out).mono ?_;rintro e w4 ⟨u4,rfl,hown4,hb4⟩;obtain⟨B3,f3,rfl,hy3⟩:=Yb.of hown4;have Y0d:=qAg (Y0c.out.below hb4);have Y1c:=qAg (Y1b.out.below hb4);have Y2b:=qAg (Y2a.out.below hb4);have Y3a:=qAg hy3;refine qAQ ?_;intro HB4;have HC4:=qAg (HC3.out.below hb4 HS3.out);have HS4:=qAg (qAh HS3.out hb4.size);clear hown4 hb4 hy3)
      |(go_at_call 58
        refine(P4.out _ HB4.out).mono ?_;rintro e w5 ⟨u5,rfl,hown5,hb5⟩;obtain⟨B4,f4,rfl,hy4⟩:=Yb.of hown5;have Y0:=qAg (Y0d.out.below hb5);have Y1:=qAg (Y1c.out.below hb5);have Y2:=qAg (Y2b.out.below hb5);have Y3:=qAg (Y3a.out.below hb5);have Y4:=qAg hy4;have HB5:=qAg (HB4.out.trans (hb5.mono HB4.out.size));have HC5:=qAg (HC4.out.below hb5 HS4.out);have HS5:=qAg (qAh HS4.out hb5.size);clear hown5 hb5 hy4)
      |(go_at_call 49
        refine(qJJ _ _ _ [y0,y1,y2,y3,y4] _ rfl (qFV w5 B0 B1 B2 B3 B4 f0 f1 f2 f3 f4 y0 y1 y2 y3 y4 Y0.out Y1.out Y2.out Y3.out Y4.out) HZ.out).mono ?_;rintro e w6 ⟨u6,rfl,hown6,hb6⟩;have HO6:=qAg hown6;have Hb6:=qAg hb6;have HC6:=qAg ((HC5.out.below (Below.alloc (qAk _ _) (qAi _) _) HS5.out).below hb6 (by simp;have:=HS5.out;omega));clear hown6 hb6))
   go_wp2_with fail
   go_ret2;refine⟨(HB5.out.alloc HB5.out.size _).trans (Hb6.out.mono (by simp;have:=HB5.out.size;omega)),.inr ⟨HF.out,_,rfl,?_⟩⟩;rw[HI.out];exact qBQ HO6.out (by simp;have:=HB5.out.size;omega)
structure Small (x:Mod):Prop where
 recs:∀t∈x.recs,t.length≤3000
 funcs:∀f∈x.funcs,f.args.length≤3000∧f.locs.length≤3000∧f.code.length≤3000
 imps:∀i∈x.imps,i.args.length≤3000
 texts:∀s∈x.texts,s.length≤3000
end Go.Proofs.YtelceoecekfamaaGreat
