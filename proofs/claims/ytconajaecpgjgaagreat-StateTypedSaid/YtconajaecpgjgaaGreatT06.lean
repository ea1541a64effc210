/-
Pwf Plrec Plfn Plimp Plnum Plstr Pjn En Raw Bn Bk0 Bks
-/
import Derived.Test.YtconajaecpgjgaaGreatT01
import Derived.Test.YtconajaecpgjgaaGreatT02
import Derived.Test.YtconajaecpgjgaaGreatT05
import Derived.Deep.RegionHeld3
import Derived.Deep.RegionLaw
import Derived.Maps.AppendAt
set_option linter.unusedSimpArgs false
set_option linter.unusedVariables false
set_option maxRecDepth 100000
set_option maxHeartbeats 4000000
namespace Go.Proofs.YtconajaecpgjgaaGreat
open Go.RowKit
theorem qIY (w:World) (A0 A1 A2 A3:Option Addr) (c0 c1 c2 c3:Nat) (x0 x1 x2 x3:List Nat) (l0:x0.length≤c0) (l1:x1.length≤c1) (l2:x2.length≤c2) (l3:x3.length≤c3)
 (h0:Byt (·<w.heap.size) w A0 x0) (h1:Byt (·<w.heap.size) w A1 x1) (h2:Byt (·<w.heap.size) w A2 x2) (h3:Byt (·<w.heap.size) w A3 x3):
 Rws (·<(w.alloc (.cells #[.slice A0 x0.length c0,.slice A1 x1.length c1,.slice A2 x2.length c2,.slice A3 x3.length c3] 52)).heap.size)
  (w.alloc (.cells #[.slice A0 x0.length c0,.slice A1 x1.length c1,.slice A2 x2.length c2,.slice A3 x3.length c3] 52)) (some ⟨w.heap.size,0,none⟩) [x0,x1,x2,x3]:=fun _=>by
 refine⟨_,rfl,by simp,fun j hj=> ?_⟩
 have hk:∀o:Obj,∀b,b<w.heap.size→(w.alloc o).heap[b]? =w.heap[b]? :=fun o b hb=>qBM w _ b hb
 have e:(⟨w.heap.size,0,none⟩:Addr).add j=⟨w.heap.size,j,none⟩:=by unfold Addr.add;split<;>simp_all
 rw[e,World.cell?_alloc_mark]
 match j,hj with
 |0,_=>exact⟨A0,c0,rfl,l0,(h0.keep (hk _)).wide fun b hb=>by simp;omega⟩
 |1,_=>exact⟨A1,c1,rfl,l1,(h1.keep (hk _)).wide fun b hb=>by simp;omega⟩
 |2,_=>exact⟨A2,c2,rfl,l2,(h2.keep (hk _)).wide fun b hb=>by simp;omega⟩
 |3,_=>exact⟨A3,c3,rfl,l3,(h3.keep (hk _)).wide fun b hb=>by simp;omega⟩
 |j+4,hj=>exact absurd hj (by simp)
def Yb (w:World) (A:Option Addr) (c:Nat) (xs:List Nat):Prop:=xs.length≤c∧Byt (·<w.heap.size) w A xs
theorem Yb.below {w w':World} {A:Option Addr} {c:Nat} {xs:List Nat} (h:Yb w A c xs) (hb:Below w.heap.size w w'):Yb w' A c xs:=
 ⟨h.1,(h.2.below hb (qAf _)).wide fun b h1=>qAg h1 hb.size⟩
theorem Yb.of {w:World} {base n:Nat} {v:Value} {xs:List Nat} (h:w.ownsRow base 5 1 v n (Bs xs)):∃A c,v= .slice A xs.length c∧Yb w A c xs:=by
 obtain⟨A,c,rfl,e,h1,-,h2⟩:=qA5 h
 subst e
 exact⟨A,c,rfl,h1,h2.wide fun b hb=>hb.2⟩
theorem qDk (cs:List Value) (x:Fn) (r:Int) (w:World) (hr:r≤8) (hx:fnOk r x=true) (h:fnL.R (·<w.heap.size) w cs x):Calls Tryz.prog 101 #[vAgg cs] w (Puts (fnB x) w):=by
 obtain⟨a1,a2,a3,a4,a5,a6,a7,a8⟩:=qCn hx
 have hB1:=qCE hr (by omega) a5
 have hB2:=qC6 hr a6
 have hB3:=qCE hr (by omega) a7
 have hB4:=qBp iB x.code 5 (fun t _=>qE6 t) (by unfold B64;omega)
 clear a5 a6 a7 a8 hx hr
 obtain⟨p0,p1,p2,rfl,i1,i2,⟨A4,d4,e4,l4,m4,s4⟩,⟨A5,d5,e5,l5,m5,s5⟩,⟨A6,d6,e6,l6,m6,s6⟩⟩:=h
 simp only[List.cons.injEq,and_true] at e4 e5 e6
 subst e4 e5 e6
 show Calls Tryz.prog 101 #[.agg #[.slice A4 x.args.length d4,.int .i64 x.ret.1,.int .i64 x.ret.2,.slice A5 x.locs.length d5,.slice A6 x.code.length d6]] w (Puts (fnB x) w)
 obtain⟨n,hn⟩:∃n,x.args.length=n:=⟨_,rfl⟩
 obtain⟨m,hm⟩:∃m,x.locs.length=m:=⟨_,rfl⟩
 obtain⟨o,ho⟩:∃o,x.code.length=o:=⟨_,rfl⟩
 obtain⟨y0,hy0⟩:∃y,lB tB x.args=y:=⟨_,rfl⟩
 obtain⟨y1,hy1⟩:∃y,tB x.ret=y:=⟨_,rfl⟩
 obtain⟨y2,hy2⟩:∃y,lB tB x.locs=y:=⟨_,rfl⟩
 obtain⟨y3,hy3⟩:∃y,lB iB x.code=y:=⟨_,rfl⟩
 have P0:Hid (∀w1,Below w.heap.size w w1→Calls Tryz.prog 99 #[.slice A4 n d4] w1 (Puts y0 w1)):=fun w1 hb=>by
  rw[←hy0]
  exact qB6 A4 n d4 x.args w1 hn ((s4.keep fun b hb1=>hb.block b hb1).wide fun b hb1=>qAg hb1 hb.size) (by omega) (by omega)
 have P1:Hid (∀w1,Calls Tryz.prog 140 #[.agg #[.int .i64 x.ret.1,.int .i64 x.ret.2]] w1 (Puts y1 w1)):=fun w1=>by
  rw[←hy1]
  exact kput x.ret.1 x.ret.2 w1 i1 i2
 have P2:Hid (∀w1,Below w.heap.size w w1→Calls Tryz.prog 99 #[.slice A5 m d5] w1 (Puts y2 w1)):=fun w1 hb=>by
  rw[←hy2]
  exact qB6 A5 m d5 x.locs w1 hm ((s5.keep fun b hb1=>hb.block b hb1).wide fun b hb1=>qAg hb1 hb.size) (by omega) (by omega)
 have P3:Hid (∀w1,Below w.heap.size w w1→Calls Tryz.prog 142 #[.slice A6 o d6,.func (.func 143) #[] #[]] w1 (Puts y3 w1)):=fun w1 hb=>by
  rw[←hy3]
  exact qFb A6 o d6 x.code w1 ho ((s6.keep fun b hb1=>hb.block b hb1).wide fun b hb1=>qAg hb1 hb.size) (by omega) (by omega) (put_ins x.code)
 have HI:Hid (fnB x=[y0,y1,y2,y3].flatten):=by show fnB x=_;rw[←hy0,←hy1,←hy2,←hy3];simp[fnB]
 rw[hy0] at hB1
 rw[hy1] at hB2
 rw[hy2] at hB3
 rw[hy3,ho] at hB4
 rw[hn,hm,ho]
 rw[hn] at a1 a2
 rw[hm] at a2
 rw[ho] at a3 a4
 clear hy0 hy1 hy2 hy3 hn hm ho s4 l4 m4 s5 l5 m5 s6 l6 m6 i1 i2
 have HZ:Hid ([y0,y1,y2,y3].flatten.length≤140737488355328):=by show[y0,y1,y2,y3].flatten.length≤_;simp;omega
 obtain⟨b,hb⟩:∃b,fnB x=b:=⟨_,rfl⟩
 rw[hb] at HI⊢
 clear hb
 generalize x.ret.1=k1 at*
 generalize x.ret.2=k2 at*
 go_enter Tryz.func101,Tryz.ntmps101
 go_wp2_with fail
 refine qAp fun W hW=> ?_
 have hC:C5 w.heap.size (.slice A4 n d4) (.int .i64 k1) (.int .i64 k2) (.slice A5 m d5) (.slice A6 o d6) W:=by rw[hW];simp[C5,go_sem]
 have HB0:Hid (Below w.heap.size w W):=by
  show Below w.heap.size w W
  rw[hW]
  exact(qAe _ _).alloc (qAf _) _
 have hs:w.heap.size<W.heap.size:=by rw[hW];simp
 clear hW
 have HC0:=qAZ hC
 obtain⟨z0,z1,z2,z3,z4⟩:=hC
 go_region_held3 (fun w'=>w'.cell? ⟨w.heap.size,0,none⟩=some (.slice A4 n d4)∧w'.cell? ⟨w.heap.size,1,none⟩=some (.int .i64 k1)∧w'.cell? ⟨w.heap.size,2,none⟩=some (.int .i64 k2)∧w'.cell? ⟨w.heap.size,3,none⟩=some (.slice A5 m d5)∧w'.cell? ⟨w.heap.size,4,none⟩=some (.slice A6 o d6))
  (first|exact HC5.out|exact HC4.out|exact HC4.out.below (Below.alloc (qAe _ _) (qAf _) _) HS4.out|exact HC3.out|exact HC2.out|exact HC1.out|exact HC0.out)
  (first
    |(go_at_call 142
      refine(P3.out _ HB3.out).mono ?_
      rintro e w4 ⟨u4,rfl,hown4,hb4⟩
      obtain⟨B3,f3,rfl,hy3⟩:=Yb.of hown4
      have Y0:=qAZ (Y0c.out.below hb4)
      have Y1:=qAZ (Y1b.out.below hb4)
      have Y2:=qAZ (Y2a.out.below hb4)
      have Y3:=qAZ hy3
      have HB4:=qAZ (HB3.out.trans (hb4.mono HB3.out.size))
      have HC4:=qAZ (HC3.out.below hb4 HS3.out)
      have HS4:=qAZ (qAg HS3.out hb4.size)
      clear hown4 hb4 hy3)
    |(go_at_call 99
      (with_reducible refine(P2.out _ ?_).mono ?_)
      · exact HB2.out
      rintro e w3 ⟨u3,rfl,hown3,hb3⟩
      obtain⟨B2,f2,rfl,hy2⟩:=Yb.of hown3
      have Y0c:=qAZ (Y0b.out.below hb3)
      have Y1b:=qAZ (Y1a.out.below hb3)
      have Y2a:=qAZ hy2
      have HB3:=qAZ (HB2.out.trans (hb3.mono HB2.out.size))
      have HC3:=qAZ (HC2.out.below hb3 HS2.out)
      have HS3:=qAZ (qAg HS2.out hb3.size)
      clear hown3 hb3 hy2)
    |(go_at_call 140
      refine(P1.out _).mono ?_
      rintro e w2 ⟨u2,rfl,hown2,hb2⟩
      obtain⟨B1,f1,rfl,hy1⟩:=Yb.of hown2
      have Y0b:=qAZ (Y0a.out.below hb2)
      have Y1a:=qAZ hy1
      have HB2:=qAZ (HB1.out.trans (hb2.mono HB1.out.size))
      have HC2:=qAZ (HC1.out.below hb2 HS1.out)
      have HS2:=qAZ (qAg HS1.out hb2.size)
      clear hown2 hb2 hy1)
    |(go_at_call 99
      (with_reducible refine(P0.out _ ?_).mono ?_)
      · exact HB0.out.drew
      rintro e w1 ⟨u1,rfl,hown1,hb1⟩
      obtain⟨B0,f0,rfl,hy0⟩:=Yb.of hown1
      have Y0a:=qAZ hy0
      have HB1:=qAZ (HB0.out.drew.trans (hb1.mono HB0.out.size))
      have HC1:=qAZ (C5.below (w:=W.drew) HC0.out hb1 hs)
      have HS1:=qAZ (qAg hs hb1.size)
      clear hown1 hb1 hy0)
    |(go_at_call 141
      refine(qGp _ _ _ [y0,y1,y2,y3] _ rfl (qIY w4 B0 B1 B2 B3 f0 f1 f2 f3 y0 y1 y2 y3 Y0.out.1 Y1.out.1 Y2.out.1 Y3.out.1 Y0.out.2 Y1.out.2 Y2.out.2 Y3.out.2) HZ.out (by simp)).mono ?_
      rintro e w5 ⟨u5,rfl,hown5,hb5⟩
      have HO5:=qAZ hown5
      have Hb5:=qAZ hb5
      have HC5:=qAZ ((HC4.out.below (Below.alloc (qAe _ _) (qAf _) _) HS4.out).below hb5 (by simp;have:=HS4.out;omega))
      clear hown5 hb5))
 go_wp2_with fail
 go_ret
 refine⟨_,rfl,?_,(HB4.out.alloc HB4.out.size _).trans (Hb5.out.mono (by simp;have:=HB4.out.size;omega))⟩
 rw[HI.out]
 exact qBc HO5.out (by simp;have:=HB4.out.size;omega)
theorem qFZ (A:Option Addr) (n c:Nat) (xs:List (List Typ)) (w:World) (hl:xs.length=n) (h:Sq tysL (·<w.heap.size) w A xs) (hn2:n≤1000000) (hn:(lB (lB tB) xs).length≤1000000)
 (hP:∀(w1:World) (cs:List Value) (x:(List Typ)),x∈xs→tysL.R (·<w1.heap.size) w1 cs x→Calls Tryz.prog 99 #[vOne cs] w1 (Puts ((lB tB) x) w1)):
 Calls Tryz.prog 98 #[.slice A n c,.func (.func 99) #[] #[]] w (Puts (lB (lB tB) xs) w):=by
 have HN:=qAZ hn
 have HL:=qAZ hl
 have HS:=qAZ h
 have HP0:=qAZ hP
 clear hl h hn hP
 have hn3:n<B64:=by unfold B64;omega
 go_enter Tryz.func98,Tryz.ntmps98
 go_wp2_with fail
 refine(qBW n w hn3).mono ?_
 rintro e w1 ⟨u1,rfl,hown1,hb1⟩
 have HO1:=qAZ hown1
 have HB1:=qAZ hb1
 clear hown1 hb1
 go_wp2_with fail
 go_loopw [5,14] (fun s i wr=>∃k:Nat,k≤n∧i= .int .i64 (k:Nat)∧(∃q,q=vb n++((xs.take k).map (lB tB)).flatten∧q.length≤1000000∧wr.ownsRow w.heap.size 5 1 s q.length (Bs q))∧Below w.heap.size w wr) (fun _ i _=>n-(intOf i).toNat)
 case atStart=>
  exact qY
 case round=>
  obtain⟨k,hk,rfl,⟨q,hq,hq2,hown⟩,hbel⟩:=hrel
  have HO:=qAZ hown
  have HB:=qAZ hbel
  have HQ:=qAZ hq
  have hs:=hbel.size
  clear hown hbel hq
  by_cases hlt:k<n
  · skip
    obtain⟨x,hx⟩:∃x,xs[k]? =some x:=⟨xs[k]'qd,qAa _⟩
    have hmem:x∈xs:=qAk hx
    obtain⟨a,cs,rfl,hab,hc,hr⟩:=HS.out.at hx
    have HF:=qAZ (qBT (lB tB) xs k x hx)
    have hle2:=qBt (lB tB) xs (k+1)
    rw[HF.out,List.length_append] at hle2
    have hq3:q.length+((lB tB) x).length≤1000000:=by
     have:=HN.out
     simp only[lB,List.length_append,HL.out] at this
     rw[HQ.out,List.length_append]
     omega
    clear hle2 hx
    have HR:=qAZ hr
    obtain⟨A2,d2,rfl,-,-,-⟩:=hr
    have c0:=(HB.out.cell (p:=a.add k) qE).trans (qBC (K:=tysL.k) rfl (hc 0 _ rfl))
    have HP:Hid (∀w1,Below w.heap.size w w1→Calls Tryz.prog 99 #[.slice A2 x.length d2] w1 (Puts ((lB tB) x) w1)):=fun w1 hb=>HP0.out w1 [.slice A2 x.length d2] x hmem (tysL.wide (tysL.keep HR.out fun b hb1=>hb.block b hb1) fun b hb1=>qAg hb1 hb.size)
    clear hc
    obtain⟨y,hy⟩:∃y,(lB tB) x=y:=⟨_,rfl⟩
    rw[hy] at hq3 HP
    have HY:=qAZ hy
    clear hy
    go_wp2_with (first
     |(go_at_call 99
       refine(HP.out _ (HB.out)).mono ?_
       rintro e w2 ⟨u2,rfl,hown2,hb2⟩
       obtain⟨A3,c3,rfl,-,-,-,hB2⟩:=qA5 hown2
       have HB2:=qAZ hB2
       have HO2:=qAZ (qA4 (HO.out) hb2 (qAf _))
       have Hb2:=qAZ ((HB.out).trans (hb2.mono (hs)))
       have hs2:=Hb2.out.size
       clear hown2 hB2 hb2)
     |(at_builtin
       refine qA3 _ rfl (.tmp 18) (.tmp 21) rfl w.heap.size u5 q.length q rfl HO2.out A3 y.length c3 y rfl rfl _ HB2.out (by omega) (by omega) ?_
       intro v4 w4 hown4 hg4 _
       have HO4:=qAZ hown4
       have HG4:=qAZ hg4
       clear hown4 hg4))
    exact qO
  · obtain rfl:k=n:=by omega
    go_wp2_with fail
    go_ret
    refine⟨_,rfl,?_,HB.out⟩
    have e:lB (lB tB) xs=q:=by
     rw[HQ.out,qAr qZ,lB,HL.out]
    rw[e]
    exact HO.out
theorem qGS (A:Option Addr) (n c:Nat) (xs:List Fn) (w:World) (hl:xs.length=n) (h:Sq fnL (·<w.heap.size) w A xs) (hn2:n≤1000000) (hn:(lB fnB xs).length≤1000000)
 (hP:∀(w1:World) (cs:List Value) (x:Fn),x∈xs→fnL.R (·<w1.heap.size) w1 cs x→Calls Tryz.prog 101 #[vAgg cs] w1 (Puts (fnB x) w1)):
 Calls Tryz.prog 100 #[.slice A n c,.func (.func 101) #[] #[]] w (Puts (lB fnB xs) w):=by
 have HN:=qAZ hn
 have HL:=qAZ hl
 have HS:=qAZ h
 have HP0:=qAZ hP
 clear hl h hn hP
 have hn3:n<B64:=by unfold B64;omega
 go_enter Tryz.func100,Tryz.ntmps100
 go_wp2_with fail
 refine(qBW n w hn3).mono ?_
 rintro e w1 ⟨u1,rfl,hown1,hb1⟩
 have HO1:=qAZ hown1
 have HB1:=qAZ hb1
 clear hown1 hb1
 go_wp2_with fail
 go_loopw [5,14] (fun s i wr=>∃k:Nat,k≤n∧i= .int .i64 (k:Nat)∧(∃q,q=vb n++((xs.take k).map fnB).flatten∧q.length≤1000000∧wr.ownsRow w.heap.size 5 1 s q.length (Bs q))∧Below w.heap.size w wr) (fun _ i _=>n-(intOf i).toNat)
 case atStart=>
  exact qY
 case round=>
  obtain⟨k,hk,rfl,⟨q,hq,hq2,hown⟩,hbel⟩:=hrel
  have HO:=qAZ hown
  have HB:=qAZ hbel
  have HQ:=qAZ hq
  have hs:=hbel.size
  clear hown hbel hq
  by_cases hlt:k<n
  · skip
    obtain⟨x,hx⟩:∃x,xs[k]? =some x:=⟨xs[k]'qd,qAa _⟩
    have hmem:x∈xs:=qAk hx
    obtain⟨a,cs,rfl,hab,hc,hr⟩:=HS.out.at hx
    have HF:=qAZ (qBT fnB xs k x hx)
    have hle2:=qBt fnB xs (k+1)
    rw[HF.out,List.length_append] at hle2
    have hq3:q.length+(fnB x).length≤1000000:=by
     have:=HN.out
     simp only[lB,List.length_append,HL.out] at this
     rw[HQ.out,List.length_append]
     omega
    clear hle2 hx
    have HR:=qAZ hr
    obtain⟨p0,p1,p2,rfl,-,-,⟨A4,d4,e4,-⟩,⟨A5,d5,e5,-⟩,⟨A6,d6,e6,-⟩⟩:=hr
    simp only[List.cons.injEq,and_true] at e4 e5 e6
    subst e4 e5 e6
    have c0:=(HB.out.cell (p:=a.add (k*5)) qE).trans (hc 0 _ rfl)
    have c1:=(HB.out.cell (p:=a.add (k*5+1)) qE).trans (hc 1 _ rfl)
    rw[qAl a (k*5) 1 (by omega)] at c1
    have c2:=(HB.out.cell (p:=a.add (k*5+2)) qE).trans (hc 2 _ rfl)
    rw[qAl a (k*5) 2 (by omega)] at c2
    have c3:=(HB.out.cell (p:=a.add (k*5+3)) qE).trans (hc 3 _ rfl)
    rw[qAl a (k*5) 3 (by omega)] at c3
    have c4:=(HB.out.cell (p:=a.add (k*5+4)) qE).trans (hc 4 _ rfl)
    rw[qAl a (k*5) 4 (by omega)] at c4
    have HP:Hid (∀w1,Below w.heap.size w w1→Calls Tryz.prog 101 #[.agg #[.slice A4 x.args.length d4,.int .i64 x.ret.1,.int .i64 x.ret.2,.slice A5 x.locs.length d5,.slice A6 x.code.length d6]] w1 (Puts (fnB x) w1)):=fun w1 hb=>HP0.out w1 [.slice A4 x.args.length d4,.int .i64 x.ret.1,.int .i64 x.ret.2,.slice A5 x.locs.length d5,.slice A6 x.code.length d6] x hmem (fnL.wide (fnL.keep HR.out fun b hb1=>hb.block b hb1) fun b hb1=>qAg hb1 hb.size)
    clear hc
    obtain⟨y,hy⟩:∃y,fnB x=y:=⟨_,rfl⟩
    rw[hy] at hq3 HP
    have HY:=qAZ hy
    clear hy
    go_wp2_with (first
     |(go_at_call 101
       refine(HP.out _ (HB.out.alloc hs _)).mono ?_
       rintro e w2 ⟨u2,rfl,hown2,hb2⟩
       obtain⟨A3,c3,rfl,-,-,-,hB2⟩:=qA5 hown2
       have HB2:=qAZ hB2
       have HO2:=qAZ (qA4 (HO.out.alloc _) hb2 (qAf _))
       have Hb2:=qAZ ((HB.out.alloc hs _).trans (hb2.mono qf))
       have hs2:=Hb2.out.size
       clear hown2 hB2 hb2)
     |(at_builtin
       refine qA3 _ rfl (.tmp 18) (.tmp 21) rfl w.heap.size u5 q.length q rfl HO2.out A3 y.length c3 y rfl rfl _ HB2.out (by omega) (by omega) ?_
       intro v4 w4 hown4 hg4 _
       have HO4:=qAZ hown4
       have HG4:=qAZ hg4
       clear hown4 hg4))
    exact qO
  · obtain rfl:k=n:=by omega
    go_wp2_with fail
    go_ret
    refine⟨_,rfl,?_,HB.out⟩
    have e:lB fnB xs=q:=by
     rw[HQ.out,qAr qZ,lB,HL.out]
    rw[e]
    exact HO.out
theorem qFc (A:Option Addr) (n c:Nat) (xs:List Imp) (w:World) (hl:xs.length=n) (h:Sq impL (·<w.heap.size) w A xs) (hn2:n≤1000000) (hn:(lB impB xs).length≤1000000)
 (hP:∀(w1:World) (cs:List Value) (x:Imp),x∈xs→impL.R (·<w1.heap.size) w1 cs x→Calls Tryz.prog 103 #[vAgg cs] w1 (Puts (impB x) w1)):
 Calls Tryz.prog 102 #[.slice A n c,.func (.func 103) #[] #[]] w (Puts (lB impB xs) w):=by
 have HN:=qAZ hn
 have HL:=qAZ hl
 have HS:=qAZ h
 have HP0:=qAZ hP
 clear hl h hn hP
 have hn3:n<B64:=by unfold B64;omega
 go_enter Tryz.func102,Tryz.ntmps102
 go_wp2_with fail
 refine(qBW n w hn3).mono ?_
 rintro e w1 ⟨u1,rfl,hown1,hb1⟩
 have HO1:=qAZ hown1
 have HB1:=qAZ hb1
 clear hown1 hb1
 go_wp2_with fail
 go_loopw [5,14] (fun s i wr=>∃k:Nat,k≤n∧i= .int .i64 (k:Nat)∧(∃q,q=vb n++((xs.take k).map impB).flatten∧q.length≤1000000∧wr.ownsRow w.heap.size 5 1 s q.length (Bs q))∧Below w.heap.size w wr) (fun _ i _=>n-(intOf i).toNat)
 case atStart=>
  exact qY
 case round=>
  obtain⟨k,hk,rfl,⟨q,hq,hq2,hown⟩,hbel⟩:=hrel
  have HO:=qAZ hown
  have HB:=qAZ hbel
  have HQ:=qAZ hq
  have hs:=hbel.size
  clear hown hbel hq
  by_cases hlt:k<n
  · skip
    obtain⟨x,hx⟩:∃x,xs[k]? =some x:=⟨xs[k]'qd,qAa _⟩
    have hmem:x∈xs:=qAk hx
    obtain⟨a,cs,rfl,hab,hc,hr⟩:=HS.out.at hx
    have HF:=qAZ (qBT impB xs k x hx)
    have hle2:=qBt impB xs (k+1)
    rw[HF.out,List.length_append] at hle2
    have hq3:q.length+(impB x).length≤1000000:=by
     have:=HN.out
     simp only[lB,List.length_append,HL.out] at this
     rw[HQ.out,List.length_append]
     omega
    clear hle2 hx
    have HR:=qAZ hr
    obtain⟨p0,rfl,-,-,⟨A4,d4,e4,-⟩⟩:=hr
    simp only[List.cons.injEq,and_true] at e4
    subst e4
    have c0:=(HB.out.cell (p:=a.add (k*3)) qE).trans (hc 0 _ rfl)
    have c1:=(HB.out.cell (p:=a.add (k*3+1)) qE).trans (hc 1 _ rfl)
    rw[qAl a (k*3) 1 (by omega)] at c1
    have c2:=(HB.out.cell (p:=a.add (k*3+2)) qE).trans (hc 2 _ rfl)
    rw[qAl a (k*3) 2 (by omega)] at c2
    have HP:Hid (∀w1,Below w.heap.size w w1→Calls Tryz.prog 103 #[.agg #[.slice A4 x.args.length d4,.int .i64 x.ret.1,.int .i64 x.ret.2]] w1 (Puts (impB x) w1)):=fun w1 hb=>HP0.out w1 [.slice A4 x.args.length d4,.int .i64 x.ret.1,.int .i64 x.ret.2] x hmem (impL.wide (impL.keep HR.out fun b hb1=>hb.block b hb1) fun b hb1=>qAg hb1 hb.size)
    clear hc
    obtain⟨y,hy⟩:∃y,impB x=y:=⟨_,rfl⟩
    rw[hy] at hq3 HP
    have HY:=qAZ hy
    clear hy
    go_wp2_with (first
     |(go_at_call 103
       refine(HP.out _ (HB.out.alloc hs _)).mono ?_
       rintro e w2 ⟨u2,rfl,hown2,hb2⟩
       obtain⟨A3,c3,rfl,-,-,-,hB2⟩:=qA5 hown2
       have HB2:=qAZ hB2
       have HO2:=qAZ (qA4 (HO.out.alloc _) hb2 (qAf _))
       have Hb2:=qAZ ((HB.out.alloc hs _).trans (hb2.mono qf))
       have hs2:=Hb2.out.size
       clear hown2 hB2 hb2)
     |(at_builtin
       refine qA3 _ rfl (.tmp 18) (.tmp 21) rfl w.heap.size u5 q.length q rfl HO2.out A3 y.length c3 y rfl rfl _ HB2.out (by omega) (by omega) ?_
       intro v4 w4 hown4 hg4 _
       have HO4:=qAZ hown4
       have HG4:=qAZ hg4
       clear hown4 hg4))
    exact qO
  · obtain rfl:k=n:=by omega
    go_wp2_with fail
    go_ret
    refine⟨_,rfl,?_,HB.out⟩
    have e:lB impB xs=q:=by
     rw[HQ.out,qAr qZ,lB,HL.out]
    rw[e]
    exact HO.out
theorem qFa (A:Option Addr) (n c:Nat) (xs:List Nat) (w:World) (hl:xs.length=n) (h:Sq numL (·<w.heap.size) w A xs) (hn2:n≤1000000) (hn:(lB numB xs).length≤1000000)
 (hP:∀(w1:World) (cs:List Value) (x:Nat),x∈xs→numL.R (·<w1.heap.size) w1 cs x→Calls Tryz.prog 105 #[vOne cs] w1 (Puts (numB x) w1)):
 Calls Tryz.prog 104 #[.slice A n c,.func (.func 105) #[] #[]] w (Puts (lB numB xs) w):=by
 have HN:=qAZ hn
 have HL:=qAZ hl
 have HS:=qAZ h
 have HP0:=qAZ hP
 clear hl h hn hP
 have hn3:n<B64:=by unfold B64;omega
 go_enter Tryz.func104,Tryz.ntmps104
 go_wp2_with fail
 refine(qBW n w hn3).mono ?_
 rintro e w1 ⟨u1,rfl,hown1,hb1⟩
 have HO1:=qAZ hown1
 have HB1:=qAZ hb1
 clear hown1 hb1
 go_wp2_with fail
 go_loopw [5,14] (fun s i wr=>∃k:Nat,k≤n∧i= .int .i64 (k:Nat)∧(∃q,q=vb n++((xs.take k).map numB).flatten∧q.length≤1000000∧wr.ownsRow w.heap.size 5 1 s q.length (Bs q))∧Below w.heap.size w wr) (fun _ i _=>n-(intOf i).toNat)
 case atStart=>
  exact qY
 case round=>
  obtain⟨k,hk,rfl,⟨q,hq,hq2,hown⟩,hbel⟩:=hrel
  have HO:=qAZ hown
  have HB:=qAZ hbel
  have HQ:=qAZ hq
  have hs:=hbel.size
  clear hown hbel hq
  by_cases hlt:k<n
  · skip
    obtain⟨x,hx⟩:∃x,xs[k]? =some x:=⟨xs[k]'qd,qAa _⟩
    have hmem:x∈xs:=qAk hx
    obtain⟨a,cs,rfl,hab,hc,hr⟩:=HS.out.at hx
    have HF:=qAZ (qBT numB xs k x hx)
    have hle2:=qBt numB xs (k+1)
    rw[HF.out,List.length_append] at hle2
    have hq3:q.length+(numB x).length≤1000000:=by
     have:=HN.out
     simp only[lB,List.length_append,HL.out] at this
     rw[HQ.out,List.length_append]
     omega
    clear hle2 hx
    have HR:=qAZ hr
    obtain⟨rfl,-⟩:=hr
    have c0:=(HB.out.cell (p:=a.add k) qE).trans (qBC (K:=numL.k) rfl (hc 0 _ rfl))
    have HP:Hid (∀w1,Below w.heap.size w w1→Calls Tryz.prog 105 #[.int .u64 (x:Int)] w1 (Puts (numB x) w1)):=fun w1 hb=>HP0.out w1 [.int .u64 (x:Int)] x hmem (numL.wide (numL.keep HR.out fun b hb1=>hb.block b hb1) fun b hb1=>qAg hb1 hb.size)
    clear hc
    obtain⟨y,hy⟩:∃y,numB x=y:=⟨_,rfl⟩
    rw[hy] at hq3 HP
    have HY:=qAZ hy
    clear hy
    go_wp2_with (first
     |(go_at_call 105
       refine(HP.out _ (HB.out)).mono ?_
       rintro e w2 ⟨u2,rfl,hown2,hb2⟩
       obtain⟨A3,c3,rfl,-,-,-,hB2⟩:=qA5 hown2
       have HB2:=qAZ hB2
       have HO2:=qAZ (qA4 (HO.out) hb2 (qAf _))
       have Hb2:=qAZ ((HB.out).trans (hb2.mono (hs)))
       have hs2:=Hb2.out.size
       clear hown2 hB2 hb2)
     |(at_builtin
       refine qA3 _ rfl (.tmp 18) (.tmp 21) rfl w.heap.size u5 q.length q rfl HO2.out A3 y.length c3 y rfl rfl _ HB2.out (by omega) (by omega) ?_
       intro v4 w4 hown4 hg4 _
       have HO4:=qAZ hown4
       have HG4:=qAZ hg4
       clear hown4 hg4))
    exact qO
  · obtain rfl:k=n:=by omega
    go_wp2_with fail
    go_ret
    refine⟨_,rfl,?_,HB.out⟩
    have e:lB numB xs=q:=by
     rw[HQ.out,qAr qZ,lB,HL.out]
    rw[e]
    exact HO.out
theorem qFY (A:Option Addr) (n c:Nat) (xs:List (List Nat)) (w:World) (hl:xs.length=n) (h:Sq strL (·<w.heap.size) w A xs) (hn2:n≤1000000) (hn:(lB pt xs).length≤1000000)
 (hP:∀(w1:World) (cs:List Value) (x:(List Nat)),x∈xs→strL.R (·<w1.heap.size) w1 cs x→Calls Tryz.prog 107 #[vOne cs] w1 (Puts (pt x) w1)):
 Calls Tryz.prog 106 #[.slice A n c,.func (.func 107) #[] #[]] w (Puts (lB pt xs) w):=by
 have HN:=qAZ hn
 have HL:=qAZ hl
 have HS:=qAZ h
 have HP0:=qAZ hP
 clear hl h hn hP
 have hn3:n<B64:=by unfold B64;omega
 go_enter Tryz.func106,Tryz.ntmps106
 go_wp2_with fail
 refine(qBW n w hn3).mono ?_
 rintro e w1 ⟨u1,rfl,hown1,hb1⟩
 have HO1:=qAZ hown1
 have HB1:=qAZ hb1
 clear hown1 hb1
 go_wp2_with fail
 go_loopw [5,14] (fun s i wr=>∃k:Nat,k≤n∧i= .int .i64 (k:Nat)∧(∃q,q=vb n++((xs.take k).map pt).flatten∧q.length≤1000000∧wr.ownsRow w.heap.size 5 1 s q.length (Bs q))∧Below w.heap.size w wr) (fun _ i _=>n-(intOf i).toNat)
 case atStart=>
  exact qY
 case round=>
  obtain⟨k,hk,rfl,⟨q,hq,hq2,hown⟩,hbel⟩:=hrel
  have HO:=qAZ hown
  have HB:=qAZ hbel
  have HQ:=qAZ hq
  have hs:=hbel.size
  clear hown hbel hq
  by_cases hlt:k<n
  · skip
    obtain⟨x,hx⟩:∃x,xs[k]? =some x:=⟨xs[k]'qd,qAa _⟩
    have hmem:x∈xs:=qAk hx
    obtain⟨a,cs,rfl,hab,hc,hr⟩:=HS.out.at hx
    have HF:=qAZ (qBT pt xs k x hx)
    have hle2:=qBt pt xs (k+1)
    rw[HF.out,List.length_append] at hle2
    have hq3:q.length+(pt x).length≤1000000:=by
     have:=HN.out
     simp only[lB,List.length_append,HL.out] at this
     rw[HQ.out,List.length_append]
     omega
    clear hle2 hx
    have HR:=qAZ hr
    obtain⟨s0,rfl,-⟩:=hr
    have c0:=(HB.out.cell (p:=a.add k) qE).trans (qBC (K:=strL.k) rfl (hc 0 _ rfl))
    have HP:Hid (∀w1,Below w.heap.size w w1→Calls Tryz.prog 107 #[.string s0] w1 (Puts (pt x) w1)):=fun w1 hb=>HP0.out w1 [.string s0] x hmem (strL.wide (strL.keep HR.out fun b hb1=>hb.block b hb1) fun b hb1=>qAg hb1 hb.size)
    clear hc
    obtain⟨y,hy⟩:∃y,pt x=y:=⟨_,rfl⟩
    rw[hy] at hq3 HP
    have HY:=qAZ hy
    clear hy
    go_wp2_with (first
     |(go_at_call 107
       refine(HP.out _ (HB.out)).mono ?_
       rintro e w2 ⟨u2,rfl,hown2,hb2⟩
       obtain⟨A3,c3,rfl,-,-,-,hB2⟩:=qA5 hown2
       have HB2:=qAZ hB2
       have HO2:=qAZ (qA4 (HO.out) hb2 (qAf _))
       have Hb2:=qAZ ((HB.out).trans (hb2.mono (hs)))
       have hs2:=Hb2.out.size
       clear hown2 hB2 hb2)
     |(at_builtin
       refine qA3 _ rfl (.tmp 18) (.tmp 21) rfl w.heap.size u5 q.length q rfl HO2.out A3 y.length c3 y rfl rfl _ HB2.out (by omega) (by omega) ?_
       intro v4 w4 hown4 hg4 _
       have HO4:=qAZ hown4
       have HG4:=qAZ hg4
       clear hown4 hg4))
    exact qO
  · obtain rfl:k=n:=by omega
    go_wp2_with fail
    go_ret
    refine⟨_,rfl,?_,HB.out⟩
    have e:lB pt xs=q:=by
     rw[HQ.out,qAr qZ,lB,HL.out]
    rw[e]
    exact HO.out
theorem qIz (A:Option Addr) (n c:Nat) (xss:List (List Nat)) (w:World) (hl:xss.length=n) (hR:Rws (·<w.heap.size) w A xss) (hn:(joinB xss).length≤1000000):
 Calls Tryz.prog 97 #[.slice A n c] w fun e w'=>∃v,e= .returned v∧w'.ownsRow w.heap.size 5 1 v (joinB xss).length (Bs (joinB xss))∧Below w.heap.size w w':=by
 have hn2:n≤1000000:=by have:=qFe xss;rw[qBl] at hn;omega
 have HN:=qAZ hn
 have HL:=qAZ hl
 have HR:=qAZ hR
 clear hl hR hn
 have hn3:n<B64:=by unfold B64;omega
 go_enter Tryz.func97,Tryz.ntmps97
 go_wp2_with fail
 refine(qBW n w hn3).mono ?_
 rintro e w1 ⟨u1,rfl,hown1,hb1⟩
 have HO1:=qAZ hown1
 have HB1:=qAZ hb1
 clear hown1 hb1
 go_wp2_with fail
 go_loopw [3,12] (fun s i wr=>∃k:Nat,k≤n∧i= .int .i64 (k:Nat)∧(∃q,q=vb n++pts (xss.take k)∧q.length≤1000000∧wr.ownsRow w.heap.size 5 1 s q.length (Bs q))∧Below w.heap.size w wr) (fun _ i _=>n-(intOf i).toNat)
 case atStart=>
  exact ju
 case round=>
  obtain⟨k,hk,rfl,⟨q,hq,hq2,hown⟩,hbel⟩:=hrel
  have HO:=qAZ hown
  have HB:=qAZ hbel
  have HQ:=qAZ hq
  have hs:=hbel.size
  clear hown hbel hq
  by_cases hlt:k<n
  · obtain⟨a,B,c2,rfl,hab,hcell,_,hBy⟩:=HR.out.at (k:=k) qd
    have hcell2:=(HB.out.cell (p:=a.add k) qE).trans hcell
    have HF:=qAZ (qFd xss k qd)
    have hle2:=qIr xss (k+1)
    rw[HF.out,List.length_append,qCu] at hle2
    obtain⟨x,hx⟩:∃x,xss[k]?.getD []=x:=⟨_,rfl⟩
    rw[hx] at hcell hle2 hcell2 hBy
    have HX:=qAZ hx
    have HY:=qAZ hBy
    clear hx hcell hBy
    have hq3:q.length+(vb x.length).length+x.length≤1000000:=by
     have:=HN.out
     rw[qBl,HL.out] at this
     rw[HQ.out,List.length_append]
     omega
    clear hle2
    have hx64:x.length<B64:=by unfold B64;omega
    go_wp2_with fail
    refine(qBW x.length wr hx64).mono ?_
    rintro e w2 ⟨u2,rfl,hown2,hb2⟩
    obtain⟨A2,c3,rfl,-,-,-,hB2⟩:=qA5 hown2
    have HB2:=qAZ hB2
    have Hb2:=qAZ hb2
    have HO2:=qAZ (qA4 HO.out hb2 (qAf _))
    have hs2:=hb2.size
    clear hown2 hB2 hb2
    go_wp2_with (first
     |(at_builtin
       refine qA3 _ rfl (.tmp 16) (.tmp 20) rfl w.heap.size u3 q.length q rfl HO2.out A2 (vb x.length).length c3 (vb x.length) rfl rfl _ HB2.out (by omega) (by omega) ?_
       intro v3 w3 hown3 hg3 _
       have HO3:=qAZ hown3
       have HG3:=qAZ hg3
       have HB3:=qAZ ((HB.out.trans (Hb2.out.mono (by omega))).grown hg3 (by omega) (fun i hi=>(HO.out.lt i hi).1))
       have hs3:=hg3.size
       clear hown3 hg3)
     |(at_builtin
       refine qA3 _ rfl (.tmp 22) (.tmp 23) rfl w.heap.size v3 (q.length+(vb x.length).length) (q++vb x.length) rfl HO3.out B x.length c2 x rfl rfl (·<w.heap.size) (HY.out.below HB3.out (qAf _)) (by omega) (by omega) ?_
       intro v4 w4 hown4 hg4 _
       have HO4:=qAZ hown4
       have HG4:=qAZ hg4
       clear hown4 hg4))
    refine⟨⟨k+1,by omega,by simp,⟨q++vb x.length++x,?_,?_,?_⟩,HB3.out.grown HG4.out (by omega) (fun i hi=>(HO3.out.lt i hi).1)⟩,by simp[intOf];omega⟩
    · rw[HF.out,HQ.out,HX.out,pt]
      simp[List.append_assoc]
    · simp[List.length_append]
      omega
    · exact qAI
  · obtain rfl:k=n:=by omega
    go_wp2_with fail
    go_ret
    refine⟨_,rfl,?_,HB.out⟩
    have e:joinB xss=q:=by
     rw[HQ.out,qAr qZ,joinB,HL.out]
    rw[e]
    exact HO.out
theorem qFS (w:World) (A0 A1 A2 A3 A4:Option Addr) (c0 c1 c2 c3 c4:Nat) (x0 x1 x2 x3 x4:List Nat) (h0:Yb w A0 c0 x0) (h1:Yb w A1 c1 x1) (h2:Yb w A2 c2 x2) (h3:Yb w A3 c3 x3) (h4:Yb w A4 c4 x4):
 Rws (·<(w.alloc (.cells #[.slice A0 x0.length c0,.slice A1 x1.length c1,.slice A2 x2.length c2,.slice A3 x3.length c3,.slice A4 x4.length c4] 52)).heap.size)
  (w.alloc (.cells #[.slice A0 x0.length c0,.slice A1 x1.length c1,.slice A2 x2.length c2,.slice A3 x3.length c3,.slice A4 x4.length c4] 52)) (some ⟨w.heap.size,0,none⟩) [x0,x1,x2,x3,x4]:=fun _=>by
 refine⟨_,rfl,by simp,fun j hj=> ?_⟩
 have hk:∀o:Obj,∀b,b<w.heap.size→(w.alloc o).heap[b]? =w.heap[b]? :=fun o b hb=>qBM w _ b hb
 have e:(⟨w.heap.size,0,none⟩:Addr).add j=⟨w.heap.size,j,none⟩:=by unfold Addr.add;split<;>simp_all
 rw[e,World.cell?_alloc_mark]
 match j,hj with
 |0,_=>exact⟨A0,c0,rfl,h0.1,(h0.2.keep (hk _)).wide fun b hb=>by simp;omega⟩
 |1,_=>exact⟨A1,c1,rfl,h1.1,(h1.2.keep (hk _)).wide fun b hb=>by simp;omega⟩
 |2,_=>exact⟨A2,c2,rfl,h2.1,(h2.2.keep (hk _)).wide fun b hb=>by simp;omega⟩
 |3,_=>exact⟨A3,c3,rfl,h3.1,(h3.2.keep (hk _)).wide fun b hb=>by simp;omega⟩
 |4,_=>exact⟨A4,c4,rfl,h4.1,(h4.2.keep (hk _)).wide fun b hb=>by simp;omega⟩
 |j+5,hj=>exact absurd hj (by simp)
def Encodes (m:Mod) (w:World) (e:Ending) (w':World):Prop:=
 Below w.heap.size w w'∧((fitB m=false∧e= .returned (.tuple #[.slice none 0 0,.int .i64 2]))∨
  (fitB m=true∧∃u,e= .returned (.tuple #[u,.int .i64 0])∧w'.ownsRow w.heap.size 5 1 u (modB m).length (Bs (modB m))))
theorem qGo (cs:List Value) (x:Mod) (w:World) (h:modL.R (·<w.heap.size) w cs x):Calls Tryz.prog 72 #[vAgg cs] w (Encodes x w):=by
 have TF:Hid (∀w1,Below w.heap.size w w1→Calls Tryz.prog 96 #[vAgg cs] w1 (Tells (fitB x) w1)):=fun w1 hb=>qJF cs x w1 (modL.wide (modL.keep h fun b hb1=>hb.block b hb1) fun b hb1=>qAg hb1 hb.size)
 obtain⟨_,_,_,_,_,rfl,⟨A0,d0,e0,l0,m0,s0⟩,⟨A1,d1,e1,l1,m1,s1⟩,⟨A2,d2,e2,l2,m2,s2⟩,⟨A3,d3,e3,l3,m3,s3⟩,⟨A4,d4,e4,l4,m4,s4⟩⟩:=h
 simp only[List.cons.injEq,and_true] at e0 e1 e2 e3 e4
 subst e0 e1 e2 e3 e4
 have TF2:Hid (∀w1,Below w.heap.size w w1→Calls Tryz.prog 96 #[.agg #[.slice A0 x.recs.length d0,.slice A1 x.funcs.length d1,.slice A2 x.imps.length d2,.slice A3 x.ints.length d3,.slice A4 x.texts.length d4]] w1 (Tells (fitB x) w1)):=TF.out
 clear TF
 show Calls Tryz.prog 72 #[.agg #[.slice A0 x.recs.length d0,.slice A1 x.funcs.length d1,.slice A2 x.imps.length d2,.slice A3 x.ints.length d3,.slice A4 x.texts.length d4]] w (Encodes x w)
 have HB0:Hid (∀o:Obj,Below w.heap.size w (w.alloc o)):=fun o=>(qAe _ _).alloc (qAf _) _
 cases hf:fitB x
 · rw[hf] at TF2
   have HF:=qAZ hf
   generalize x.recs.length=n0 at*
   generalize x.funcs.length=n1 at*
   generalize x.imps.length=n2 at*
   generalize x.ints.length=n3 at*
   generalize x.texts.length=n4 at*
   clear hf s0 s1 s2 s3 s4 m0 m1 m2 m3 m4
   go_enter Tryz.func72,Tryz.ntmps72
   go_wp2_with (first
    |(go_at_call 96
      refine(TF2.out _ (HB0.out _)).mono ?_
      rintro e w1 ⟨rfl,hb1⟩
      have HB1:=qAZ ((HB0.out _).trans (hb1.mono (by simp)))
      clear hb1))
   go_ret2
   exact⟨HB1.out,.inl ⟨HF.out,rfl⟩⟩
 · rw[hf] at TF2
   have hF:=qBJ.1 hf
   have HF:=qAZ hf
   have hpl:=hF.parts_len
   have p0:=hpl 0 (by simp[partsB])
   have p1:=hpl 1 (by simp[partsB])
   have p2:=hpl 2 (by simp[partsB])
   have p3:=hpl 3 (by simp[partsB])
   have p4:=hpl 4 (by simp[partsB])
   simp[partsB] at p0 p1 p2 p3 p4
   have r8:=hF.r8
   have f8:=hF.f8
   have i8:=hF.i8
   have n16:=hF.n16
   have t16:=hF.t16
   obtain⟨n0,h0⟩:∃n,x.recs.length=n:=⟨_,rfl⟩
   obtain⟨n1,h1⟩:∃n,x.funcs.length=n:=⟨_,rfl⟩
   obtain⟨n2,h2⟩:∃n,x.imps.length=n:=⟨_,rfl⟩
   obtain⟨n3,h3⟩:∃n,x.ints.length=n:=⟨_,rfl⟩
   obtain⟨n4,h4⟩:∃n,x.texts.length=n:=⟨_,rfl⟩
   obtain⟨y0,hy0⟩:∃y,lB (lB tB) x.recs=y:=⟨_,rfl⟩
   obtain⟨y1,hy1⟩:∃y,lB fnB x.funcs=y:=⟨_,rfl⟩
   obtain⟨y2,hy2⟩:∃y,lB impB x.imps=y:=⟨_,rfl⟩
   obtain⟨y3,hy3⟩:∃y,lB numB x.ints=y:=⟨_,rfl⟩
   obtain⟨y4,hy4⟩:∃y,lB pt x.texts=y:=⟨_,rfl⟩
   have P0:Hid (∀w1,Below w.heap.size w w1→Calls Tryz.prog 98 #[.slice A0 n0 d0,.func (.func 99) #[] #[]] w1 (Puts y0 w1)):=fun w1 hb=>by
    rw[←hy0]
    refine qFZ A0 n0 d0 x.recs w1 h0 ((s0.keep fun b hb1=>hb.block b hb1).wide fun b hb1=>qAg hb1 hb.size) (by omega) (by omega) fun w2 cs y hy hr=> ?_
    obtain⟨A,c,rfl,l1,l2,l3⟩:=hr
    have hz:=qDP (hF.recs y hy)
    have hzl:=qCE hF.r8 (by omega) hz.2
    exact qB6 A y.length c y w2 rfl l3 (by omega) (by omega)
   have P1:Hid (∀w1,Below w.heap.size w w1→Calls Tryz.prog 100 #[.slice A1 n1 d1,.func (.func 101) #[] #[]] w1 (Puts y1 w1)):=fun w1 hb=>by
    rw[←hy1]
    exact qGS A1 n1 d1 x.funcs w1 h1 ((s1.keep fun b hb1=>hb.block b hb1).wide fun b hb1=>qAg hb1 hb.size) (by omega) (by omega) fun w2 cs y hy hr=>qDk cs y _ w2 hF.r8 (hF.funcs y hy) hr
   have P2:Hid (∀w1,Below w.heap.size w w1→Calls Tryz.prog 102 #[.slice A2 n2 d2,.func (.func 103) #[] #[]] w1 (Puts y2 w1)):=fun w1 hb=>by
    rw[←hy2]
    exact qFc A2 n2 d2 x.imps w1 h2 ((s2.keep fun b hb1=>hb.block b hb1).wide fun b hb1=>qAg hb1 hb.size) (by omega) (by omega) fun w2 cs y hy hr=>qER cs y _ w2 hF.r8 (hF.imps y hy) hr
   have P3:Hid (∀w1,Below w.heap.size w w1→Calls Tryz.prog 104 #[.slice A3 n3 d3,.func (.func 105) #[] #[]] w1 (Puts y3 w1)):=fun w1 hb=>by
    rw[←hy3]
    refine qFa A3 n3 d3 x.ints w1 h3 ((s3.keep fun b hb1=>hb.block b hb1).wide fun b hb1=>qAg hb1 hb.size) (by omega) (by omega) fun w2 cs y hy hr=> ?_
    obtain⟨rfl,hy64⟩:=hr
    exact qFW y w2 hy64
   have P4:Hid (∀w1,Below w.heap.size w w1→Calls Tryz.prog 106 #[.slice A4 n4 d4,.func (.func 107) #[] #[]] w1 (Puts y4 w1)):=fun w1 hb=>by
    rw[←hy4]
    refine qFY A4 n4 d4 x.texts w1 h4 ((s4.keep fun b hb1=>hb.block b hb1).wide fun b hb1=>qAg hb1 hb.size) (by omega) (by omega) fun w2 cs y hy hr=> ?_
    obtain⟨s,rfl,rfl⟩:=hr
    exact qHK s w2 (by have:=hF.texts _ hy;omega)
   have hlen:=hF.len
   have HI:Hid (modB x=joinB [y0,y1,y2,y3,y4]):=by show modB x=_;rw[←hy0,←hy1,←hy2,←hy3,←hy4];rfl
   have HZ:Hid ((joinB [y0,y1,y2,y3,y4]).length≤1000000):=by show(joinB _).length≤_;rw[←HI.out];omega
   rw[h0,h1,h2,h3,h4] at TF2⊢
   clear hF hf hpl p0 p1 p2 p3 p4 r8 f8 i8 n16 t16 h0 h1 h2 h3 h4 hy0 hy1 hy2 hy3 hy4 s0 s1 s2 s3 s4 l0 l1 l2 l3 l4 m0 m1 m2 m3 m4 hlen
   go_enter Tryz.func72,Tryz.ntmps72
   have HC:Hid (C5 w.heap.size (.slice A0 n0 d0) (.slice A1 n1 d1) (.slice A2 n2 d2) (.slice A3 n3 d3) (.slice A4 n4 d4) (w.alloc (.cells #[.slice A0 n0 d0,.slice A1 n1 d1,.slice A2 n2 d2,.slice A3 n3 d3,.slice A4 n4 d4] 28))):=by show C5 _ _ _ _ _ _ _;simp[C5,go_sem]
   go_wp2_with (first
    |(go_at_call 96
      refine(TF2.out _ (HB0.out _)).mono ?_
      rintro e W ⟨rfl,hb1⟩
      have HB:=qAZ ((HB0.out _).trans (hb1.mono (by simp)))
      have HC0:=qAZ (HC.out.below hb1 (by simp))
      have hs:w.heap.size<W.heap.size:=zU
      clear hb1))
   obtain⟨z0,z1,z2,z3,z4⟩:=HC0.out
   go_region_held3 (fun w'=>w'.cell? ⟨w.heap.size,0,none⟩=some (.slice A0 n0 d0)∧w'.cell? ⟨w.heap.size,1,none⟩=some (.slice A1 n1 d1)∧w'.cell? ⟨w.heap.size,2,none⟩=some (.slice A2 n2 d2)∧w'.cell? ⟨w.heap.size,3,none⟩=some (.slice A3 n3 d3)∧w'.cell? ⟨w.heap.size,4,none⟩=some (.slice A4 n4 d4))
    (first|exact HC6.out|exact HC5.out|exact HC5.out.below (Below.alloc (qAe _ _) (qAf _) _) HS5.out|exact HC4.out|exact HC3.out|exact HC2.out|exact HC1.out|exact HC0.out)
    (first
      |(go_at_call 98
        refine(P0.out _ HB.out.drew).mono ?_
        rintro e w1 ⟨u1,rfl,hown1,hb1⟩
        obtain⟨B0,f0,rfl,hy0⟩:=Yb.of hown1
        have Y0a:=qAZ hy0
        have HB1:=qAZ (HB.out.drew.trans (hb1.mono HB.out.size))
        have HC1:=qAZ (C5.below (w:=W.drew) HC0.out hb1 hs)
        have HS1:=qAZ (qAg hs hb1.size)
        clear hown1 hb1 hy0)
      |(go_at_call 100
        refine(P1.out _ HB1.out).mono ?_
        rintro e w2 ⟨u2,rfl,hown2,hb2⟩
        obtain⟨B1,f1,rfl,hy1⟩:=Yb.of hown2
        have Y0b:=qAZ (Y0a.out.below hb2)
        have Y1a:=qAZ hy1
        have HB2:=qAZ (HB1.out.trans (hb2.mono HB1.out.size))
        have HC2:=qAZ (HC1.out.below hb2 HS1.out)
        have HS2:=qAZ (qAg HS1.out hb2.size)
        clear hown2 hb2 hy1)
      |(go_at_call 102
        refine(P2.out _ HB2.out).mono ?_
        rintro e w3 ⟨u3,rfl,hown3,hb3⟩
        obtain⟨B2,f2,rfl,hy2⟩:=Yb.of hown3
        have Y0c:=qAZ (Y0b.out.below hb3)
        have Y1b:=qAZ (Y1a.out.below hb3)
        have Y2a:=qAZ hy2
        have HB3:=qAZ (HB2.out.trans (hb3.mono HB2.out.size))
        have HC3:=qAZ (HC2.out.below hb3 HS2.out)
        have HS3:=qAZ (qAg HS2.out hb3.size)
        clear hown3 hb3 hy2)
      |(go_at_call 104
        refine(P3.out _ HB3.out).mono ?_
        rintro e w4 ⟨u4,rfl,hown4,hb4⟩
        obtain⟨B3,f3,rfl,hy3⟩:=Yb.of hown4
        have Y0d:=qAZ (Y0c.out.below hb4)
        have Y1c:=qAZ (Y1b.out.below hb4)
        have Y2b:=qAZ (Y2a.out.below hb4)
        have Y3a:=qAZ hy3
        have HB4:=qAZ (HB3.out.trans (hb4.mono HB3.out.size))
        have HC4:=qAZ (HC3.out.below hb4 HS3.out)
        have HS4:=qAZ (qAg HS3.out hb4.size)
        clear hown4 hb4 hy3)
      |(go_at_call 106
        refine(P4.out _ HB4.out).mono ?_
        rintro e w5 ⟨u5,rfl,hown5,hb5⟩
        obtain⟨B4,f4,rfl,hy4⟩:=Yb.of hown5
        have Y0:=qAZ (Y0d.out.below hb5)
        have Y1:=qAZ (Y1c.out.below hb5)
        have Y2:=qAZ (Y2b.out.below hb5)
        have Y3:=qAZ (Y3a.out.below hb5)
        have Y4:=qAZ hy4
        have HB5:=qAZ (HB4.out.trans (hb5.mono HB4.out.size))
        have HC5:=qAZ (HC4.out.below hb5 HS4.out)
        have HS5:=qAZ (qAg HS4.out hb5.size)
        clear hown5 hb5 hy4)
      |(go_at_call 97
        refine(qIz _ _ _ [y0,y1,y2,y3,y4] _ rfl (qFS w5 B0 B1 B2 B3 B4 f0 f1 f2 f3 f4 y0 y1 y2 y3 y4 Y0.out Y1.out Y2.out Y3.out Y4.out) HZ.out).mono ?_
        rintro e w6 ⟨u6,rfl,hown6,hb6⟩
        have HO6:=qAZ hown6
        have Hb6:=qAZ hb6
        have HC6:=qAZ ((HC5.out.below (Below.alloc (qAe _ _) (qAf _) _) HS5.out).below hb6 (by simp;have:=HS5.out;omega))
        clear hown6 hb6))
   go_wp2_with fail
   go_ret2
   refine⟨(HB5.out.alloc HB5.out.size _).trans (Hb6.out.mono (by simp;have:=HB5.out.size;omega)),.inr ⟨HF.out,_,rfl,?_⟩⟩
   rw[HI.out]
   exact qBc HO6.out (by simp;have:=HB5.out.size;omega)
theorem qE2 {α:Type} {L:Lay α} {S:Nat→Prop} {w:World} {g ty:Nat} {cs:Array Value} {x:α} (h:Blk w g ty cs) (hg:S g) (hR:L.R S w cs.toList x):(slL L).R S w [.slice (some ⟨g,0,none⟩) 1 1] [x]:=by
 refine⟨some ⟨g,0,none⟩,1,rfl,qAf _,by simp[maxLen],fun _=>⟨_,rfl,hg,fun j y hy=> ?_⟩⟩
 have hj:j=0:=by
  rcases Nat.eq_zero_or_pos j with h|h
  · exact h
  · rw[List.getElem?_eq_none qf] at hy
    cases hy
 subst hj
 simp at hy
 subst hy
 refine⟨_,fun i u hu=> ?_,hR⟩
 have e:(⟨g,0,none⟩:Addr).add (0*L.k+i)=⟨g,i,none⟩:=by unfold Addr.add;split<;>simp_all
 rw[e,h.cell i]
 simpa using hu
theorem qBZ {α:Type} (L:Lay α) (S:Nat→Prop) (w:World):(slL L).R S w [.slice none 0 0] []:=⟨none,0,rfl,qAf _,by simp[maxLen],Sq.nil _ _ _ _⟩
theorem qEW {w w':World} {base B ty k:Nat} {v:Value} {n:Nat} {xs:List Value} (h:w.ownsRow base ty k v n xs) (hb:Below B w w') (hB:w.heap.size≤B):w'.ownsRow base ty k v n xs:=
 h.kept (w':=w') (row:=none) ⟨hb.os,hb.tape,hb.output,hb.size,fun k hk _=>hb.block k (by omega)⟩ (by cases v.ownBlock<;>simp)
def tA:Array Value:= #[.int .i64 1,.int .i64 0]
def iA:Array Value:= #[.int .i64 26,.int .i64 0,.int .i64 0]
def bm:Nat→Nat→Mod
 |0,k=>⟨List.replicate k [],[fn0],[],[],[]⟩
 |1,k=>⟨[],List.replicate (k+1) fn0,[],[],[]⟩
 |2,k=>⟨[],[fn0],List.replicate k ⟨[],(1,0)⟩,[],[]⟩
 |3,k=>⟨[],[fn0],[],List.range k,[]⟩
 |4,k=>⟨[],[fn0],[],[],List.replicate k [97]⟩
 |5,k=>⟨[],[⟨[],(1,0),List.replicate k (1,0),[(26,0,0)]⟩],[],[],[]⟩
 |_,k=>⟨[],[⟨[],(1,0),[],(26,0,0)::List.replicate k (5,0,0)⟩],[],[],[]⟩
def bt:Nat→Nat
 |0=>8
 |1=>7
 |2=>8
 |3=>16
 |4=>16
 |5=>8
 |_=>63
def Bst (N ty k b0 g ty2:Nat) (mk:Value→Array Value) (w W0 wr:World) (css:List (List Value)) (v:Value):Prop:=
 Below N w wr∧N+4≤wr.heap.size∧wr.ownsRow (N+1) ty k v css.length css.flatten∧(∀b,v.ownBlock=some b→b=b0∨N+4≤b)∧(∀b,b<N+4→b≠b0→b≠g→wr.heap[b]? =W0.heap[b]?)∧Blk wr g ty2 (mk v)
theorem Bst.blk {N ty k b0 g ty2:Nat} {mk:Value→Array Value} {w W0 wr w1 w2:World} {css:List (List Value)} {v:Value} (h:Bst N ty k b0 g ty2 mk w W0 wr css v) (hb:b0≠g) (hg:g<N+4) (h1:Below wr.heap.size wr w1) (hgr:w1.grownBy w2 v.ownBlock):Blk w2 g ty2 (mk v):=by
 obtain⟨a1,a2,a3,a4,a5,a6⟩:=h
 refine((hgr.block g (qAg a6.lt h1.size) fun e=> ?_).trans (h1.block g a6.lt)).trans a6
 rcases a4 g e.symm with h|h<;>omega
theorem Bst.step {N ty k b0 g ty2 i:Nat} {mk:Value→Array Value} {w W0 wr w1 w2:World} {css:List (List Value)} {ys:List Value} {v v':Value} (h:Bst N ty k b0 g ty2 mk w W0 wr css v) (hb:b0≠g) (hb0:N≤b0) (hg0:N≤g) (hg:g<N+4) (h1:Below wr.heap.size wr w1)
 (hown:w2.ownsRow (N+1) ty k v' (css.length+1) (css.flatten++ys)) (hgr:w1.grownBy w2 v.ownBlock) (h5:v'.ownBlock=v.ownBlock∨v'.ownBlock=some w1.heap.size) (hset:(mk v).setIfInBounds i v'=mk v'):
 Bst N ty k b0 g ty2 mk w W0 (w2.setCell ⟨g,i,none⟩ v') (css++[ys]) v':=by
 have hblk:=h.blk hb hg h1 hgr
 obtain⟨a1,a2,a3,a4,a5,a6⟩:=h
 have s1:=h1.size
 have s2:=hgr.size
 have hv:∀b,v'.ownBlock=some b→b=b0∨N+4≤b:=by
  intro b e
  rcases h5 with h|h
  · exact a4 b (h▸e)
  · rw[h] at e
    injection e with e
    omega
 have hrow:∀j,v.ownBlock=some j→N≤j:=fun j e=>by rcases a4 j e with h|h<;>omega
 refine⟨((a1.trans (h1.mono (by omega))).trans (qF4 hgr (by omega) hrow)).setCell (p:=⟨g,i,none⟩) hg0 _,by have:=(qFg (qEY g w2) i v').size;omega,?_,hv,?_,?_⟩
 · have:=hown.kept (row:=some g) (qFg (qEY g w2) i v') (.inr fun e=>by rcases hv g e with h|h<;>omega)
   simpa using this
 · intro b h2 h3 h4
   rw[qAi _ _ _ _ (by simpa using h4),hgr.block b (by omega) (fun e=>by rcases a4 b e.symm with h|h<;>omega),h1.block b (by omega)]
   exact a5 b h2 h3 h4
 · rw[←hset]
   exact hblk.set i v'
theorem qAd {v:World} {o:Obj} {b t:Nat} {c:Array Value} (h:Blk v b t c):Blk (v.alloc o) b t c:=(qBM v o b h.lt).trans h
theorem qAm {v:World} {b t:Nat} {c:Array Value} (h:v.heap.size=b):Blk (v.alloc (.cells c t)) b t c:=by rw[←h];exact qAz v t c
theorem qAc {v w:World} {B b t:Nat} {c:Array Value} (h:Blk v b t c) (hb:Below B v w) (hB:b<B):Blk w b t c:=(hb.block b hB).trans h
theorem qAq {v:World} {b t g i:Nat} {c:Array Value} {u:Value} (h:Blk v b t c) (hne:b≠g):Blk (v.setCell ⟨g,i,none⟩ u) b t c:=(qAi v ⟨g,i,none⟩ u b hne).trans h
theorem qDw {α:Type} {L:Lay α} {S:Nat→Prop} {w:World} {g ty:Nat} {cs:Array Value} {c0 c1:List Value} {x y:α} (h:Blk w g ty cs) (hg:S g) (hc:cs.toList=c0++c1) (h0:L.R S w c0 x) (h1:L.R S w c1 y):(slL L).R S w [.slice (some ⟨g,0,none⟩) 2 2] [x,y]:=by
 have l0:=L.len h0
 have l1:=L.len h1
 have hcell:∀i u,(c0++c1)[i]? =some u→w.cell? ⟨g,i,none⟩=some u:=fun i u hu=>by
  rw[h.cell i,←hu,←hc]
  simp
 have e:∀i,(⟨g,0,none⟩:Addr).add i=⟨g,i,none⟩:=fun i=>by unfold Addr.add;split<;>simp_all
 refine⟨some ⟨g,0,none⟩,2,rfl,qAf _,by simp[maxLen],fun _=>⟨_,rfl,hg,fun j z hz=> ?_⟩⟩
 match j,hz with
 |0,hz=>
  simp at hz
  subst hz
  refine⟨c0,fun i u hu=> ?_,h0⟩
  rw[e,Nat.zero_mul,Nat.zero_add]
  have hi:=(qAh.1 hu).1
  exact hcell i u (by rw[List.getElem?_append_left hi];exact hu)
 |1,hz=>
  simp at hz
  subst hz
  refine⟨c1,fun i u hu=> ?_,h1⟩
  rw[e,Nat.one_mul]
  exact hcell _ u (by rw[List.getElem?_append_right (by omega)];simpa[l0] using hu)
 |j+2,hz=>simp at hz
end Go.Proofs.YtconajaecpgjgaaGreat
