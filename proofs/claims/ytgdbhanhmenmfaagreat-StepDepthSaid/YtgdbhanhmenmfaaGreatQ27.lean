/-
Ixmis Sc2 Sc3 Ixbfn Ixbim Sc4 Ffw Ffn Rgi Sxa
-/
import Derived.Test.YtgdbhanhmenmfaaGreatProg
import Derived.Test.YtgdbhanhmenmfaaGreatQ01
import Derived.Test.YtgdbhanhmenmfaaGreatQ03
import Derived.Test.YtgdbhanhmenmfaaGreatQ05
import Derived.Test.YtgdbhanhmenmfaaGreatQ09
import Derived.Test.YtgdbhanhmenmfaaGreatQ10
import Derived.Test.YtgdbhanhmenmfaaGreatQ26
import Derived.BigQuiet
import Derived.Deep.RegionWith
import Derived.Laws.EntriesVeiled
import Derived.OwnWalk
import Derived.Deep.RegionHeld3
import Derived.Deep.MidRow
import Derived.Laws.CopyRow
import Derived.Below
set_option linter.unusedSimpArgs false
set_option linter.unusedVariables false
set_option maxRecDepth 100000
set_option maxHeartbeats 4000000
namespace Go.Proofs.YtgdbhanhmenmfaaGreat
open Go.RowKit
variable {pc:Int}{ts:List Typ}{w:World}{x:Mod}
theorem qN {P:Prop} (h:P:=by
 clear h0 h1 h2 h3 h4 g0 g1 g2 hR
 go_enter Tryz.func158,Tryz.ntmps158
 go_wp2_with fail
 go_ret;exact⟨by rw[HN.out,←dge];rfl,HBel.out⟩):P:=h
theorem ql {P:Prop} (h:P:=by
 generalize r.length=rl at*;have hk0:0≤(k:Int):=by omega
 clear h0 h1 h2 h3 h4 g0 g1 g2 hR hr hc
 go_enter Tryz.func158,Tryz.ntmps158
 go_wp2_with fail
 go_quiet (fail)
 go_wp2_with fail
 go_ret;exact⟨by show Ending.returned (Value.bool (decide (n0≤k) || decide ((rl:Int)≤b)))=_;rw[HN.out,←dge,decide_eq_false (show ¬n0≤k by omega)];rfl,qEj HBel.out _ HBel.out.size⟩):P:=h
theorem qz {P:Prop} (h:P:=by
 have hge:(n0:Int)≤a:=by omega
 have hd:decide (a<(n0:Int))=false:=by simp;omega
 clear h0 h1 h2 h3 h4 g0 g1 g2 hR
 go_enter Tryz.func158,Tryz.ntmps158
 go_wp2_with fail
 go_quiet (fail)
 go_wp2_with fail
 go_ret;exact⟨by rw[HN.out];rfl,qEj HBel.out _ HBel.out.size⟩):P:=h
theorem jI {P Q:Prop} (q:Q) (h:Q→P:=by
 have HC0:Hid (C5 w.heap.size (.slice A0 n0 d0) (.slice A1 n1 d1) (.slice A2 n2 d2) (.slice A3 n3 d3) (.slice A4 n4 d4) (w.alloc (.cells #[.slice A0 n0 d0,.slice A1 n1 d1,.slice A2 n2 d2,.slice A3 n3 d3,.slice A4 n4 d4] 28))):=by show C5 _ _ _ _ _ _ _;simp[C5,go_sem]
 intro kz;revert HC0;exact kz):P:=h q
theorem qLv (A:Option Addr) (n c:Nat) (xs:List Ins) (g:Ins→Bool) (p7:Addr) (p8:Addr) (w:World) (hl:xs.length=n) (h:Sq insL (·<w.heap.size) w A xs) (hn2:n≤9223372036854775807)
 (hG:∀(w1:World) (cs:List Value) (x:Ins),Below w.heap.size w w1→x∈xs→insL.R (·<w1.heap.size) w1 cs x→Calls Tryz.prog 158 #[vAgg cs,.pointer (some p7),.pointer (some p8)] w1 (Tells (g x) w1)):
 Calls Tryz.prog 157 #[.slice A n c,.func (.func 158) #[] #[.pointer (some p7),.pointer (some p8)]] w fun e w'=>∃k:Int,e= .returned (.int .i64 k)∧decide (0≤k)=xs.any g∧Below w.heap.size w w':=by
 refine jn ?_;intro HL HS HP0;clear hl h hG
 go_enter Tryz.func157,Tryz.ntmps157
 go_wp2_with fail
 go_loopw [8] (fun i wr=>∃k:Nat,k≤n∧i= .int .i64 (k:Nat)∧(xs.take k).any g=false∧Below w.heap.size w wr) (fun i _=>n-(intOf i).toNat)
 case atStart=>exact⟨0,qBU _,rfl,by simp,qBO _ _⟩
 case round=>
  obtain⟨k,hk,rfl,hall,hbel⟩:=hrel;refine jd ?_;intro HA HB hs;clear hall hbel
  by_cases hlt:k<n
  · skip
    refine jA ?_;intro x hx hmem;obtain⟨a,cs,rfl,hab,hc,hr⟩:=HS.out.at hx;have HX:=qBK hx;clear hx;have HR:=qBK hr;obtain⟨rfl,-,-,-⟩:=hr;refine jY ?_;intro c0 c1;rw[qBT a (k*3) 1 (by omega)] at c1;refine qAQ ?_;intro c2;rw[qBT a (k*3) 2 (by omega)] at c2;have HP:Hid (∀w1,Below w.heap.size w w1→Calls Tryz.prog 158 #[.agg #[.int .i64 x.1,.int .i64 x.2.1,.int .i64 x.2.2],.pointer (some p7),.pointer (some p8)] w1 (Tells (g x) w1)):=fun w1 hb=>HP0.out w1 [.int .i64 x.1,.int .i64 x.2.1,.int .i64 x.2.2] x hb hmem (insL.wide (insL.keep HR.out fun b hb1=>hb.block b hb1) fun b hb1=>qBN hb1 hb.size);clear hc;have hk0:0≤(k:Int):=by omega
    cases hg:g x
    · rw[hg] at HP
      have HG:=qBK hg;clear hg
      go_wp2_with (first
       |(go_at_call 158
         refine(HP.out _ HB.out).mono ?_;rintro e w2 ⟨rfl,hb2⟩;refine ju ?_;intro Hb2;clear hb2))
      exact qV
    · rw[hg] at HP
      refine qAG ?_;intro e E;clear e hg
      go_wp2_with (first
       |(go_at_call 158
         refine(HP.out _ HB.out).mono ?_;rintro e w2 ⟨rfl,hb2⟩;refine ju ?_;intro Hb2;clear hb2))
      exact qo
  · exact qS
theorem qHj (A:Option Addr) (n c:Nat) (xs:List Ins) (g:Ins→Bool) (p7:Addr) (p8:Addr) (w:World) (hl:xs.length=n) (h:Sq insL (·<w.heap.size) w A xs) (hn2:n≤9223372036854775807)
 (hG:∀(w1:World) (cs:List Value) (x:Ins),Below w.heap.size w w1→x∈xs→insL.R (·<w1.heap.size) w1 cs x→Calls Tryz.prog 158 #[vAgg cs,.pointer (some p7),.pointer (some p8)] w1 (Tells (g x) w1)):
 Calls Tryz.prog 102 #[.slice A n c,.func (.func 158) #[] #[.pointer (some p7),.pointer (some p8)]] w (Tells (xs.any g) w):=by
 have HC:=qBK (qLv A n c xs g p7 p8 w hl h hn2 hG);clear hl h hG;generalize xs.any g=ab at*
 go_enter Tryz.func102,Tryz.ntmps102
 go_wp2_with (first|(go_at_call 157;refine HC.out.mono ?_;rintro e w1 ⟨k,rfl,hk,hb⟩;have HB:=qBK hb;have HK:=qBK hk;clear hb hk))
 go_ret;exact⟨by rw[←HK.out];rfl,HB.out⟩
theorem qHW (A0 A1 A2 A3 A4 P0 P1 P2:Option Addr) (n0 n1 n2 n3 n4 d0 d1 d2 d3 d4 u0 u1 u2 c0 c1 c2:Nat) (r1 r2:Int) (m:Mod) (f:Fn) (o a b:Int) (w:World) (B G:Nat) (h0:m.recs.length=n0) (h1:m.funcs.length=n1) (h2:m.imps.length=n2) (h3:m.ints.length=n3) (h4:m.texts.length=n4) (g0:f.args.length=u0) (g1:f.locs.length=u1) (g2:f.code.length=u2) (hn0:n0≤9223372036854775807) (hu0:u0≤1000) (hu1:u1≤1000) (ha:0≤a∧a≤255) (hb:0≤b∧b≤255) (hR:Sq tysL (·<w.heap.size) w A0 m.recs) (hC:C5 B (.slice A0 n0 d0) (.slice A1 n1 d1) (.slice A2 n2 d2) (.slice A3 n3 d3) (.slice A4 n4 d4) w) (hD:C5 G (.slice P0 u0 c0) (.int .i64 r1) (.int .i64 r2) (.slice P1 u1 c1) (.slice P2 u2 c2) w):
 Calls Tryz.prog 158 #[.agg #[.int .i64 o,.int .i64 a,.int .i64 b],.pointer (some ⟨B,0,none⟩),.pointer (some ⟨G,0,none⟩)] w (Tells (!namedB m f (o,a,b)) w):=by
 have HBel:Hid (Below w.heap.size w (w.alloc (.cells #[.int .i64 o,.int .i64 a,.int .i64 b] 65))):=(qBO _ _).alloc (qBL _) _;have hBl:=qBR w _ hC.1;have hGl:=qBR w _ hD.1;simp only at hBl hGl;have hBn:B≠w.heap.size:=by omega
 have hGn:G≠w.heap.size:=by omega
 obtain⟨x0,x1,x2,x3,x4⟩:=hC;obtain⟨y0,y1,y2,y3,y4⟩:=hD
 by_cases e0:o=0
 · subst e0
   have HN:Hid (namedB m f (0,a,b)=decide (a<(n3:Int))):=by show namedB _ _ _=_;simp[namedB,h0,h1,h2,h3,h4,g0,g1,g2]
   generalize namedB m f (0,a,b)=nb at*;exact qN
 by_cases e1:o=1
 · subst e1
   have HN:Hid (namedB m f (1,a,b)=decide (a<(n4:Int))):=by show namedB _ _ _=_;simp[namedB,h0,h1,h2,h3,h4,g0,g1,g2]
   generalize namedB m f (1,a,b)=nb at*;exact qN
 by_cases e3:o=3
 · subst e3
   have HN:Hid (namedB m f (3,a,b)=decide (a<(u0:Int)+(u1:Int))):=by show namedB _ _ _=_;simp[namedB,h0,h1,h2,h3,h4,g0,g1,g2]
   generalize namedB m f (3,a,b)=nb at*;exact qN
 by_cases e4:o=4
 · subst e4
   have HN:Hid (namedB m f (4,a,b)=decide (a<(u0:Int)+(u1:Int))):=by show namedB _ _ _=_;simp[namedB,h0,h1,h2,h3,h4,g0,g1,g2]
   generalize namedB m f (4,a,b)=nb at*;exact qN
 by_cases e23:o=23
 · subst e23
   have HN:Hid (namedB m f (23,a,b)=decide (a<(u2:Int))):=by show namedB _ _ _=_;simp[namedB,h0,h1,h2,h3,h4,g0,g1,g2]
   generalize namedB m f (23,a,b)=nb at*;exact qN
 by_cases e24:o=24
 · subst e24
   have HN:Hid (namedB m f (24,a,b)=decide (a<(u2:Int))):=by show namedB _ _ _=_;simp[namedB,h0,h1,h2,h3,h4,g0,g1,g2]
   generalize namedB m f (24,a,b)=nb at*;exact qN
 by_cases e25:o=25
 · subst e25
   have HN:Hid (namedB m f (25,a,b)=decide (a<(n1:Int))):=by show namedB _ _ _=_;simp[namedB,h0,h1,h2,h3,h4,g0,g1,g2]
   generalize namedB m f (25,a,b)=nb at*;exact qN
 by_cases e27:o=27
 · subst e27
   have HN:Hid (namedB m f (27,a,b)=decide (a<(n2:Int))):=by show namedB _ _ _=_;simp[namedB,h0,h1,h2,h3,h4,g0,g1,g2]
   generalize namedB m f (27,a,b)=nb at*;exact qN
 by_cases e28:o=28
 · subst e28
   have HN:Hid (namedB m f (28,a,b)=decide (a<(n0:Int))):=by show namedB _ _ _=_;simp[namedB,h0,h1,h2,h3,h4,g0,g1,g2]
   generalize namedB m f (28,a,b)=nb at*;exact qN
 by_cases e29:o=29
 · subst e29
   by_cases hlt:a<(n0:Int)
   · obtain⟨k,rfl⟩:∃k:Nat,a=(k:Int):=⟨a.toNat,by omega⟩
     have hk:k<n0:=by omega
     obtain⟨r,hr⟩:∃r,m.recs[k]? =some r:=⟨m.recs[k]'(by rw[h0];exact hk),List.getElem?_eq_getElem _⟩;have HN:Hid (namedB m f (29,(k:Int),b)=decide (b<(r.length:Int))):=by show namedB _ _ _=_;simp[namedB,hr]
     obtain⟨a0,cs,ea,hab,hc,hRr⟩:=hR.at hr;subst ea;obtain⟨Q0,q0,rfl,-,-,-⟩:=hRr;refine qBA ?_;intro cr cr2;generalize namedB m f (29,(k:Int),b)=nb at*;exact ql
   · have HN:Hid (namedB m f (29,a,b)=false):=by
      show namedB _ _ _=_
      have hz:m.recs[a.toNat]? =none:=List.getElem?_eq_none (by rw[h0];omega);simp[namedB,hz]
     generalize namedB m f (29,a,b)=nb at*;exact qz
 by_cases e30:o=30
 · subst e30
   by_cases hlt:a<(n0:Int)
   · obtain⟨k,rfl⟩:∃k:Nat,a=(k:Int):=⟨a.toNat,by omega⟩
     have hk:k<n0:=by omega
     obtain⟨r,hr⟩:∃r,m.recs[k]? =some r:=⟨m.recs[k]'(by rw[h0];exact hk),List.getElem?_eq_getElem _⟩;have HN:Hid (namedB m f (30,(k:Int),b)=decide (b<(r.length:Int))):=by show namedB _ _ _=_;simp[namedB,hr]
     obtain⟨a0,cs,ea,hab,hc,hRr⟩:=hR.at hr;subst ea;obtain⟨Q0,q0,rfl,-,-,-⟩:=hRr;refine qBA ?_;intro cr cr2;generalize namedB m f (30,(k:Int),b)=nb at*;exact ql
   · have HN:Hid (namedB m f (30,a,b)=false):=by
      show namedB _ _ _=_
      have hz:m.recs[a.toNat]? =none:=List.getElem?_eq_none (by rw[h0];omega);simp[namedB,hz]
     generalize namedB m f (30,a,b)=nb at*;exact qz
 have HN:Hid (namedB m f (o,a,b)=true):=by show namedB _ _ _=_;simp[namedB,e0,e1,e3,e4,e23,e24,e25,e27,e28,e29,e30]
 have b0:(o==0)=false:=by simpa using e0
 have b1:(o==1)=false:=by simpa using e1
 have b3:(o==3)=false:=by simpa using e3
 have b4:(o==4)=false:=by simpa using e4
 have b23:(o==23)=false:=by simpa using e23
 have b24:(o==24)=false:=by simpa using e24
 have b25:(o==25)=false:=by simpa using e25
 have b27:(o==27)=false:=by simpa using e27
 have b28:(o==28)=false:=by simpa using e28
 have b29:(o==29)=false:=by simpa using e29
 have b30:(o==30)=false:=by simpa using e30
 generalize namedB m f (o,a,b)=nb at*;clear h0 h1 h2 h3 h4 g0 g1 g2 hR e0 e1 e3 e4 e23 e24 e25 e27 e28 e29 e30
 go_enter Tryz.func158,Tryz.ntmps158
 go_wp2_with fail
 go_ret;exact⟨by rw[HN.out];rfl,HBel.out⟩
theorem qId (v0 v1 v2 v3 v4 p0 p1 p2 p3 p4:Value) (w:World):
 Calls Tryz.prog 103 #[.agg #[v0,v1,v2,v3,v4],.agg #[p0,p1,p2,p3,p4]] w fun e w'=>
  e= .returned (.func (.func 158) #[] #[.pointer (some ⟨w.heap.size,0,none⟩),.pointer (some ⟨w.heap.size+1,0,none⟩)])∧Below w.heap.size w w'∧C5 w.heap.size v0 v1 v2 v3 v4 w'∧C5 (w.heap.size+1) p0 p1 p2 p3 p4 w':=by
 go_enter Tryz.func103,Tryz.ntmps103
 go_wp2_with fail
 go_ret;exact⟨rfl,((qBO _ _).alloc (qBL _) _).alloc (by simp) _,by simp[C5,go_sem],by simp[C5,go_sem]⟩
theorem qKT (A0 A1 A2 A3 A4:Option Addr) (n0 n1 n2 n3 n4 d0 d1 d2 d3 d4:Nat) (m:Mod) (B:Nat) (x:Fn) (w:World) (h0:m.recs.length=n0) (h1:m.funcs.length=n1) (h2:m.imps.length=n2) (h3:m.ints.length=n3) (h4:m.texts.length=n4)
 (hn0:n0≤9223372036854775807) (hR:Sq tysL (·<w.heap.size) w A0 m.recs) (hC:C5 B (.slice A0 n0 d0) (.slice A1 n1 d1) (.slice A2 n2 d2) (.slice A3 n3 d3) (.slice A4 n4 d4) w)
 (cs:List Value) (hr:fnL.R (·<w.heap.size) w cs x) (hx:fnOk n0 x=true):
 Calls Tryz.prog 99 #[vAgg cs,.pointer (some ⟨B,0,none⟩)] w (Tells (badFn m x) w):=by
 obtain⟨z1,z2,z3,z4,-,-,-,z8⟩:=qDx hx;obtain⟨p0,p1,p2,rfl,i1,i2,⟨P0,c0,e4,l4,m4,s4⟩,⟨P1,c1,e5,l5,m5,s5⟩,⟨P2,c2,e6,l6,m6,s6⟩⟩:=hr;simp only[List.cons.injEq,and_true] at e4 e5 e6;subst e4 e5 e6;obtain⟨u0,g0⟩:∃n,x.args.length=n:=⟨_,rfl⟩;obtain⟨u1,g1⟩:∃n,x.locs.length=n:=⟨_,rfl⟩;obtain⟨u2,g2⟩:∃n,x.code.length=n:=⟨_,rfl⟩
 show Calls Tryz.prog 99 #[.agg #[.slice P0 x.args.length c0,.int .i64 x.ret.1,.int .i64 x.ret.2,.slice P1 x.locs.length c1,.slice P2 x.code.length c2],.pointer (some ⟨B,0,none⟩)] w (Tells (badFn m x) w)
 rw[g0,g1,g2];have T0:Hid (∀w1,Below w.heap.size w w1→Calls Tryz.prog 100 #[.slice P1 u1 c1,.func (.func 101) #[] #[]] w1 (Tells (x.locs.any hanB) w1)):=fun w1 hb=>
  qHl P1 u1 c1 x.locs hanB w1 g1 ((s5.keep fun b hb1=>hb.block b hb1).wide fun b hb1=>qBN hb1 hb.size) (by omega) fun w2 cs y _ _ hr=>qGs y w2 cs hr
 have T2:Hid (∀w1 (p7 p8:Nat),Below w.heap.size w w1→C5 p7 (.slice A0 n0 d0) (.slice A1 n1 d1) (.slice A2 n2 d2) (.slice A3 n3 d3) (.slice A4 n4 d4) w1→C5 p8 (.slice P0 u0 c0) (.int .i64 x.ret.1) (.int .i64 x.ret.2) (.slice P1 u1 c1) (.slice P2 u2 c2) w1→
  Calls Tryz.prog 102 #[.slice P2 u2 c2,.func (.func 158) #[] #[.pointer (some ⟨p7,0,none⟩),.pointer (some ⟨p8,0,none⟩)]] w1 (Tells (x.code.any fun i=> !namedB m x i) w1)):=fun w1 p7 p8 hb hc1 hc2=>
  qHj P2 u2 c2 x.code (fun i=> !namedB m x i) ⟨p7,0,none⟩ ⟨p8,0,none⟩ w1 g2 ((s6.keep fun b hb1=>hb.block b hb1).wide fun b hb1=>qBN hb1 hb.size) (by omega) fun w2 cs y hb2 hy hr=>by
   obtain⟨rfl,-⟩:=hr;obtain⟨o,a,b⟩:=y;obtain⟨o1,a1,b1,e1,e2,e3,q1,q2,q3⟩:=qBm (op:=o) (a:=a) (b:=b) (z8 _ hy);have hb3:Below w.heap.size w w2:=hb.trans (hb2.mono hb.size);exact qHW A0 A1 A2 A3 A4 P0 P1 P2 n0 n1 n2 n3 n4 d0 d1 d2 d3 d4 u0 u1 u2 c0 c1 c2 x.ret.1 x.ret.2 m x o a b w2 p7 p8 h0 h1 h2 h3 h4 g0 g1 g2 hn0 (by omega) (by omega) (by omega) (by omega) ((hR.keep fun b hb1=>hb3.block b hb1).wide fun b hb1=>qBN hb1 hb3.size)
    (hc1.below hb2 (qBR w1 _ hc1.1)) (hc2.below hb2 (qBR w1 _ hc2.1))
 have HO:Hid (badFn m x=(x.locs.any hanB || x.code.any fun i=> !namedB m x i)):=rfl;have HB0:Hid (Below w.heap.size w (w.alloc (.cells #[.slice P0 u0 c0,.int .i64 x.ret.1,.int .i64 x.ret.2,.slice P1 u1 c1,.slice P2 u2 c2] 70))):=(qBO _ _).alloc (qBL _) _;have HC0:Hid (C5 B (.slice A0 n0 d0) (.slice A1 n1 d1) (.slice A2 n2 d2) (.slice A3 n3 d3) (.slice A4 n4 d4) (w.alloc (.cells #[.slice P0 u0 c0,.int .i64 x.ret.1,.int .i64 x.ret.2,.slice P1 u1 c1,.slice P2 u2 c2] 70))∧C5 w.heap.size (.slice P0 u0 c0) (.int .i64 x.ret.1) (.int .i64 x.ret.2) (.slice P1 u1 c1) (.slice P2 u2 c2) (w.alloc (.cells #[.slice P0 u0 c0,.int .i64 x.ret.1,.int .i64 x.ret.2,.slice P1 u1 c1,.slice P2 u2 c2] 70))):=
  ⟨hC.below HB0.out (qBR w _ hC.1),by simp[C5,go_sem]⟩
 have hBl:=qBR w _ hC.1;simp only at hBl;clear g0 g1 g2 h0 h1 h2 h3 h4 hR hC i1 i2 s4 s5 s6 l4 l5 l6 m4 m5 m6 z8 hx;generalize badFn m x=gd at*;generalize x.locs.any hanB=b1 at*;generalize (x.code.any fun i=> !namedB m x i)=b2 at*;generalize x.ret.1=k1 at*;generalize x.ret.2=k2 at*
 go_enter Tryz.func99,Tryz.ntmps99
 go_wp2_with fail
 refine qBV fun W hW=> ?_;rw[←hW] at HB0 HC0;have hs:w.heap.size<W.heap.size:=by rw[hW];simp
 clear hW;have HKK:Hid (∀w1,Below W.heap.size W w1→C5 B (.slice A0 n0 d0) (.slice A1 n1 d1) (.slice A2 n2 d2) (.slice A3 n3 d3) (.slice A4 n4 d4) w1∧C5 w.heap.size (.slice P0 u0 c0) (.int .i64 k1) (.int .i64 k2) (.slice P1 u1 c1) (.slice P2 u2 c2) w1):=fun w1 hb=>⟨HC0.out.1.below hb (by omega),HC0.out.2.below hb hs⟩;obtain⟨⟨x0,x1,x2,x3,x4⟩,y0,y1,y2,y3,y4⟩:=HC0.out
 cases b1
 all_goals
  first|(go_region_with (first
   |(go_at_call 100
     refine(T0.out _ HB0.out.drew).mono ?_;rintro e w1 ⟨rfl,hb1⟩;have HX1:=qBK (((qBO W.heap.size W).drew).trans hb1);have HB1:=qBK (HB0.out.trans (HX1.out.mono HB0.out.size));obtain⟨⟨q0,q1,q2,q3,q4⟩,t0,t1,t2,t3,t4⟩:=HKK.out w1 HX1.out;clear hb1)
   |(go_at_call 103
     refine(qId _ _ _ _ _ _ _ _ _ _ _).mono ?_;rintro e w2 ⟨rfl,hb2,hc2,hc3⟩;have HX2:=qBK (HX1.out.trans (hb2.mono HX1.out.size));have HB2:=qBK (HB0.out.trans (HX2.out.mono HB0.out.size));obtain⟨⟨r0,r1,r2,r3,r4⟩,s0,s1,s2,s3,s4⟩:=HKK.out w2 HX2.out;have HM2:=qBK hc2;have HM3:=qBK hc3;clear hb2 hc2 hc3)
   |(go_at_call 102
     refine(T2.out _ _ _ HB2.out HM2.out HM3.out).mono ?_;rintro e w3 ⟨rfl,hb3⟩;have HX3:=qBK (HX2.out.trans (hb3.mono HX2.out.size));have HB3:=qBK (HB0.out.trans (HX3.out.mono HB0.out.size));clear hb3)))|fail
 all_goals
  go_wp2_with fail
  go_ret
  first|exact⟨by rw[HO.out];rfl,HB3.out⟩|exact⟨by rw[HO.out];rfl,HB1.out⟩
theorem qLz (A:Option Addr) (n c:Nat) (xs:List Fn) (g:Fn→Bool) (p7:Addr) (w:World) (hl:xs.length=n) (h:Sq fnL (·<w.heap.size) w A xs) (hn2:n≤9223372036854775807)
 (hG:∀(w1:World) (cs:List Value) (x:Fn),Below w.heap.size w w1→x∈xs→fnL.R (·<w1.heap.size) w1 cs x→Calls Tryz.prog 99 #[vAgg cs,.pointer (some p7)] w1 (Tells (g x) w1)):
 Calls Tryz.prog 159 #[.slice A n c,.func (.func 99) #[] #[.pointer (some p7)]] w fun e w'=>∃k:Int,e= .returned (.int .i64 k)∧decide (0≤k)=xs.any g∧Below w.heap.size w w':=by
 refine jn ?_;intro HL HS HP0;clear hl h hG
 go_enter Tryz.func159,Tryz.ntmps159
 go_wp2_with fail
 go_loopw [8] (fun i wr=>∃k:Nat,k≤n∧i= .int .i64 (k:Nat)∧(xs.take k).any g=false∧Below w.heap.size w wr) (fun i _=>n-(intOf i).toNat)
 case atStart=>exact⟨0,qBU _,rfl,by simp,qBO _ _⟩
 case round=>
  obtain⟨k,hk,rfl,hall,hbel⟩:=hrel;refine jd ?_;intro HA HB hs;clear hall hbel
  by_cases hlt:k<n
  · skip
    refine jA ?_;intro x hx hmem;obtain⟨a,cs,rfl,hab,hc,hr⟩:=HS.out.at hx;have HX:=qBK hx;clear hx;have HR:=qBK hr;obtain⟨p0,p1,p2,rfl,-,-,⟨A4,d4,e4,-⟩,⟨A5,d5,e5,-⟩,⟨A6,d6,e6,-⟩⟩:=hr;simp only[List.cons.injEq,and_true] at e4 e5 e6;subst e4 e5 e6;refine qAf ?_;intro c0 c1;rw[qBT a (k*5) 1 (by omega)] at c1;have c2:=(HB.out.cell (p:=a.add (k*5+2)) qD).trans (hc 2 _ rfl);rw[qBT a (k*5) 2 (by omega)] at c2;have c3:=(HB.out.cell (p:=a.add (k*5+3)) qD).trans (hc 3 _ rfl);rw[qBT a (k*5) 3 (by omega)] at c3;have c4:=(HB.out.cell (p:=a.add (k*5+4)) qD).trans (hc 4 _ rfl);rw[qBT a (k*5) 4 (by omega)] at c4;have HP:Hid (∀w1,Below w.heap.size w w1→Calls Tryz.prog 99 #[.agg #[.slice A4 x.args.length d4,.int .i64 x.ret.1,.int .i64 x.ret.2,.slice A5 x.locs.length d5,.slice A6 x.code.length d6],.pointer (some p7)] w1 (Tells (g x) w1)):=fun w1 hb=>HP0.out w1 [.slice A4 x.args.length d4,.int .i64 x.ret.1,.int .i64 x.ret.2,.slice A5 x.locs.length d5,.slice A6 x.code.length d6] x hb hmem (fnL.wide (fnL.keep HR.out fun b hb1=>hb.block b hb1) fun b hb1=>qBN hb1 hb.size);clear hc;have hk0:0≤(k:Int):=by omega
    cases hg:g x
    · rw[hg] at HP
      have HG:=qBK hg;clear hg
      go_wp2_with (first
       |(go_at_call 99
         refine(HP.out _ HB.out).mono ?_;rintro e w2 ⟨rfl,hb2⟩;refine ju ?_;intro Hb2;clear hb2))
      exact qV
    · rw[hg] at HP
      refine qAG ?_;intro e E;clear e hg
      go_wp2_with (first
       |(go_at_call 99
         refine(HP.out _ HB.out).mono ?_;rintro e w2 ⟨rfl,hb2⟩;refine ju ?_;intro Hb2;clear hb2))
      exact qo
  · exact qS
theorem qHn (A:Option Addr) (n c:Nat) (xs:List Fn) (g:Fn→Bool) (p7:Addr) (w:World) (hl:xs.length=n) (h:Sq fnL (·<w.heap.size) w A xs) (hn2:n≤9223372036854775807)
 (hG:∀(w1:World) (cs:List Value) (x:Fn),Below w.heap.size w w1→x∈xs→fnL.R (·<w1.heap.size) w1 cs x→Calls Tryz.prog 99 #[vAgg cs,.pointer (some p7)] w1 (Tells (g x) w1)):
 Calls Tryz.prog 104 #[.slice A n c,.func (.func 99) #[] #[.pointer (some p7)]] w (Tells (xs.any g) w):=by
 have HC:=qBK (qLz A n c xs g p7 w hl h hn2 hG);clear hl h hG;generalize xs.any g=ab at*
 go_enter Tryz.func104,Tryz.ntmps104
 go_wp2_with (first|(go_at_call 159;refine HC.out.mono ?_;rintro e w1 ⟨k,rfl,hk,hb⟩;have HB:=qBK hb;have HK:=qBK hk;clear hb hk))
 go_ret;exact⟨by rw[←HK.out];rfl,HB.out⟩
theorem qLy (A:Option Addr) (n c:Nat) (xs:List Imp) (g:Imp→Bool) (w:World) (hl:xs.length=n) (h:Sq impL (·<w.heap.size) w A xs) (hn2:n≤9223372036854775807)
 (hG:∀(w1:World) (cs:List Value) (x:Imp),Below w.heap.size w w1→x∈xs→impL.R (·<w1.heap.size) w1 cs x→Calls Tryz.prog 106 #[vAgg cs] w1 (Tells (g x) w1)):
 Calls Tryz.prog 160 #[.slice A n c,.func (.func 106) #[] #[]] w fun e w'=>∃k:Int,e= .returned (.int .i64 k)∧decide (0≤k)=xs.any g∧Below w.heap.size w w':=by
 refine jn ?_;intro HL HS HP0;clear hl h hG
 go_enter Tryz.func160,Tryz.ntmps160
 go_wp2_with fail
 go_loopw [8] (fun i wr=>∃k:Nat,k≤n∧i= .int .i64 (k:Nat)∧(xs.take k).any g=false∧Below w.heap.size w wr) (fun i _=>n-(intOf i).toNat)
 case atStart=>exact⟨0,qBU _,rfl,by simp,qBO _ _⟩
 case round=>
  obtain⟨k,hk,rfl,hall,hbel⟩:=hrel;refine jd ?_;intro HA HB hs;clear hall hbel
  by_cases hlt:k<n
  · skip
    refine jA ?_;intro x hx hmem;obtain⟨a,cs,rfl,hab,hc,hr⟩:=HS.out.at hx;have HX:=qBK hx;clear hx;have HR:=qBK hr;obtain⟨p0,rfl,-,-,⟨A4,d4,e4,-⟩⟩:=hr;simp only[List.cons.injEq,and_true] at e4;subst e4;refine jY ?_;intro c0 c1;rw[qBT a (k*3) 1 (by omega)] at c1;refine qAQ ?_;intro c2;rw[qBT a (k*3) 2 (by omega)] at c2;have HP:Hid (∀w1,Below w.heap.size w w1→Calls Tryz.prog 106 #[.agg #[.slice A4 x.args.length d4,.int .i64 x.ret.1,.int .i64 x.ret.2]] w1 (Tells (g x) w1)):=fun w1 hb=>HP0.out w1 [.slice A4 x.args.length d4,.int .i64 x.ret.1,.int .i64 x.ret.2] x hb hmem (impL.wide (impL.keep HR.out fun b hb1=>hb.block b hb1) fun b hb1=>qBN hb1 hb.size);clear hc;have hk0:0≤(k:Int):=by omega
    cases hg:g x
    · rw[hg] at HP
      have HG:=qBK hg;clear hg
      go_wp2_with (first
       |(go_at_call 106
         refine(HP.out _ HB.out).mono ?_;rintro e w2 ⟨rfl,hb2⟩;refine ju ?_;intro Hb2;clear hb2))
      exact qV
    · rw[hg] at HP
      refine qAG ?_;intro e E;clear e hg
      go_wp2_with (first
       |(go_at_call 106
         refine(HP.out _ HB.out).mono ?_;rintro e w2 ⟨rfl,hb2⟩;refine ju ?_;intro Hb2;clear hb2))
      exact qo
  · exact qS
theorem qHm (A:Option Addr) (n c:Nat) (xs:List Imp) (g:Imp→Bool) (w:World) (hl:xs.length=n) (h:Sq impL (·<w.heap.size) w A xs) (hn2:n≤9223372036854775807)
 (hG:∀(w1:World) (cs:List Value) (x:Imp),Below w.heap.size w w1→x∈xs→impL.R (·<w1.heap.size) w1 cs x→Calls Tryz.prog 106 #[vAgg cs] w1 (Tells (g x) w1)):
 Calls Tryz.prog 105 #[.slice A n c,.func (.func 106) #[] #[]] w (Tells (xs.any g) w):=by
 have HC:=qBK (qLy A n c xs g w hl h hn2 hG);clear hl h hG;generalize xs.any g=ab at*
 go_enter Tryz.func105,Tryz.ntmps105
 go_wp2_with (first|(go_at_call 160;refine HC.out.mono ?_;rintro e w1 ⟨k,rfl,hk,hb⟩;have HB:=qBK hb;have HK:=qBK hk;clear hb hk))
 go_ret;exact⟨by rw[←HK.out];rfl,HB.out⟩
def Errs (n:Int) (w:World) (e:Ending) (w':World):Prop:=e= .returned (.int .i64 n)∧Below w.heap.size w w'
theorem qMO (cs:List Value) (x:Mod) (w:World) (h:modL.R (·<w.heap.size) w cs x):Calls Tryz.prog 57 #[vAgg cs] w (Errs (checkN x) w):=by
 have TE:Hid (∀w1,Below w.heap.size w w1→Calls Tryz.prog 62 #[vAgg cs] w1 (Encodes x w1)):=fun w1 hb=>qF6 cs x w1 (qCA h hb);obtain⟨_,_,_,_,_,rfl,⟨A0,d0,e0,l0,m0,s0⟩,⟨A1,d1,e1,l1,m1,s1⟩,⟨A2,d2,e2,l2,m2,s2⟩,⟨A3,d3,e3,-⟩,⟨A4,d4,e4,-⟩⟩:=h;simp only[List.cons.injEq,and_true] at e0 e1 e2 e3 e4;subst e0 e1 e2 e3 e4;refine jR ?_;intro n0 h0 n1 h1 n2 h2;refine qAc ?_;intro n3 h3 n4 h4;rw[h0,h1,h2,h3,h4] at TE⊢;unfold maxLen at m0 m1 m2;rw[h0] at l0;rw[h1] at l1;rw[h2] at l2;have TE2:Hid (∀w1,Below w.heap.size w w1→Calls Tryz.prog 62 #[.agg #[.slice A0 n0 d0,.slice A1 n1 d1,.slice A2 n2 d2,.slice A3 n3 d3,.slice A4 n4 d4]] w1 (Encodes x w1)):=TE.out;clear TE
 show Calls Tryz.prog 57 #[.agg #[.slice A0 n0 d0,.slice A1 n1 d1,.slice A2 n2 d2,.slice A3 n3 d3,.slice A4 n4 d4]] w (Errs (checkN x) w)
 refine jk ?_;intro HB0;refine jI ?_;intro HC0
 cases hf:fitB x
 · have HF:=qBK hf
   have HN:=qBK (qEg hf);generalize checkN x=cn at*;clear hf s0 s1 s2 h0 h1 h2 h3 h4
   go_enter Tryz.func57,Tryz.ntmps57
   go_wp2_with (first
    |(go_at_call 62
      refine(TE2.out _ (HB0.out _)).mono ?_;rintro e w1 ⟨hb1,⟨h1,rfl⟩|⟨h1,h2⟩⟩;rotate_left
      · rw[HF.out] at h1
        cases h1
      refine qAC ?_;intro HB1;clear hb1 h1))
   go_ret;exact⟨by rw[HN.out];rfl,HB1.out⟩
 · have HF:=qBK hf
   have hF:=qBw.1 hf;have T1:Hid (∀w1 (B:Nat),Below w.heap.size w w1→C5 B (.slice A0 n0 d0) (.slice A1 n1 d1) (.slice A2 n2 d2) (.slice A3 n3 d3) (.slice A4 n4 d4) w1→Calls Tryz.prog 104 #[.slice A1 n1 d1,.func (.func 99) #[] #[.pointer (some ⟨B,0,none⟩)]] w1 (Tells (x.funcs.any (badFn x)) w1)):=fun w1 B hb hc=>
    qHn A1 n1 d1 x.funcs (badFn x) ⟨B,0,none⟩ w1 h1 ((s1.keep fun b hb1=>hb.block b hb1).wide fun b hb1=>qBN hb1 hb.size) (by omega) fun w2 cs y hb2 hy hr=>by
     have hb3:Below w.heap.size w w2:=hb.trans (hb2.mono hb.size);exact qKT A0 A1 A2 A3 A4 n0 n1 n2 n3 n4 d0 d1 d2 d3 d4 x B y w2 h0 h1 h2 h3 h4 (by omega) ((s0.keep fun b hb1=>hb3.block b hb1).wide fun b hb1=>qBN hb1 hb3.size) (hc.below hb2 (qBR w1 _ hc.1)) cs hr (by rw[←h0];exact hF.funcs y hy)
   have T2:Hid (∀w1,Below w.heap.size w w1→Calls Tryz.prog 105 #[.slice A2 n2 d2,.func (.func 106) #[] #[]] w1 (Tells (x.imps.any badImp) w1)):=fun w1 hb=>
    qHm A2 n2 d2 x.imps badImp w1 h2 ((s2.keep fun b hb1=>hb.block b hb1).wide fun b hb1=>qBN hb1 hb.size) (by omega) fun w2 cs y _ _ hr=>qFC y w2 cs hr
   have HO:Hid (badM x=(x.funcs.any (badFn x) || x.imps.any badImp)):=rfl;have HN:Hid (checkN x=if badM x=true then 1 else 0):=by show checkN x=_;simp[checkN,hf]
   generalize checkN x=cn at*;generalize badM x=bm at*;generalize x.funcs.any (badFn x)=b1 at*;generalize x.imps.any badImp=b2 at*;clear hf hF s0 s1 s2 h0 h1 h2 h3 h4
   cases b1
   case' false=>cases b2
   all_goals
    go_enter Tryz.func57,Tryz.ntmps57
    go_wp2_with (first
     |(go_at_call 62
       refine(TE2.out _ (HB0.out _)).mono ?_;rintro e w1 ⟨hb1,⟨h1,h2⟩|⟨h1,u,rfl,hown⟩⟩
       · rw[HF.out] at h1
         cases h1
       refine qAC ?_;intro HB1;have HC1:=qBK (HC0.out.below hb1 (by simp));have hs1:w.heap.size<w1.heap.size:=zI;obtain⟨A5,c5,rfl,-,-,-,-⟩:=qBu hown;obtain⟨x0,x1,x2,x3,x4⟩:=HC1.out;clear hb1 h1 hown)
     |(go_at_call 104
       refine(T1.out _ _ HB1.out HC1.out).mono ?_;rintro e w2 ⟨rfl,hb2⟩;refine jl ?_;intro HB2;obtain⟨y0,y1,y2,y3,y4⟩:=HC1.out.below hb2 hs1;clear hb2)
     |(go_at_call 105
       refine(T2.out _ HB2.out).mono ?_;rintro e w3 ⟨rfl,hb3⟩;have HB3:=qBK (HB2.out.trans (hb3.mono HB2.out.size));clear hb3))
    go_ret
    first|exact⟨by rw[HN.out,HO.out];rfl,HB3.out⟩|exact⟨by rw[HN.out,HO.out];rfl,HB2.out⟩
def Flows (r:Int×List Typ×List Int) (w:World) (e:Ending) (w':World):Prop:=
 Below w.heap.size w w'∧∃v u,e= .returned (.tuple #[v,u,.int .i64 r.1])∧w'.ownsRow w.heap.size 61 2 v r.2.1.length (T2 r.2.1)∧w'.ownsRow w.heap.size 3 1 u r.2.2.length (Is r.2.2)∧(∀b,v.ownBlock=some b→u.ownBlock≠some b)∧A64 r.2.1
theorem qIC {b b' ty k n:Nat} {v:Value} {xs:List Value} (h:w.ownsRow b ty k v n xs) (hb:b'≤b):w.ownsRow b' ty k v n xs:=by
 refine⟨h.1,?_⟩;rcases h.2 with h|⟨g',cap,cur,e,hb2,rest⟩
 · exact .inl h
 · exact .inr ⟨g',cap,cur,e,qBZ hb hb2,rest⟩
theorem qEQ {er:Int} {t:List Typ} {l:List Int} {w':World} {e:Ending} (h:Flows (er,t,l) w e w'):Below w.heap.size w w'∧∃v u,e= .returned (.tuple #[v,u,.int .i64 er])∧w'.ownsRow w.heap.size 61 2 v t.length (T2 t)∧w'.ownsRow w.heap.size 3 1 u l.length (Is l)∧A64 t:=by
 obtain⟨h1,v,u,h2,h3,h4,-,h5⟩:=h;exact⟨h1,v,u,h2,h3,h4,h5⟩
theorem qC8 {er:Int} {w':World} (h:Below w.heap.size w w'):Flows (er,[],[]) w (.returned (.tuple #[.slice none 0 0,.slice none 0 0,.int .i64 er])) w':=
 ⟨h,_,_,rfl,⟨rfl,.inl ⟨rfl,rfl⟩⟩,⟨rfl,.inl ⟨rfl,rfl⟩⟩,(fun b hb=>by cases hb),A64.nil⟩
theorem qMB {fi:Int} (h:checkN x≠0):flowB x fi pc ts=(1,[],[]):=by simp[flowB,h]
theorem qKH {fi:Int} (h:hasB x.funcs.length fi=false):flowB x fi pc ts=(1,[],[]):=by
 simp[hasB] at h;unfold flowB;split
 · rfl
 · rename_i hc
   rw[List.getElem?_eq_none (by omega)]
theorem qKG {j:Nat} {fn:Fn} (hf:x.funcs[j]? =some fn) (h:hasB fn.code.length pc=false):flowB x (j:Int) pc ts=(1,[],[]):=by
 simp[hasB] at h;unfold flowB;split
 · rfl
 · rename_i hc
   simp only[Int.toNat_natCast,hf];rw[List.getElem?_eq_none (by omega)]
theorem qF3 {j p:Nat} {fn:Fn} {i:Ins} (hc:checkN x=0) (hf:x.funcs[j]? =some fn) (hp:fn.code[p]? =some i):flowB x (j:Int) (p:Int) ts=insB8 x fn i p ts:=by
 simp[flowB,hc,hf,hp]
 omega
theorem qOP (cs:List Value) (x:Mod) (fi pc:Int) (D:Option Addr) (k g:Nat) (ts:List Typ) (w:World) (h:modL.R (·<w.heap.size) w cs x) (hc:checkN x≠0):Calls Tryz.prog 151 #[vAgg cs,.int .i64 fi,.int .i64 pc,.slice D k g] w (Flows (flowB x fi pc ts) w):=by
 refine jb ?_;intro TE;obtain⟨_,_,_,_,_,rfl,⟨A0,d0,e0,l0,m0,s0⟩,⟨A1,d1,e1,l1,m1,s1⟩,⟨A2,d2,e2,l2,m2,s2⟩,⟨A3,d3,e3,-⟩,⟨A4,d4,e4,-⟩⟩:=h;simp only[List.cons.injEq,and_true] at e0 e1 e2 e3 e4;subst e0 e1 e2 e3 e4;refine jR ?_;intro n0 h0 n1 h1 n2 h2;rw[h0,h1,h2] at TE⊢;generalize x.ints.length=n3 at*;generalize x.texts.length=n4 at*;refine jW ?_;intro TE2;clear TE
 show Calls Tryz.prog 151 #[.agg #[.slice A0 n0 d0,.slice A1 n1 d1,.slice A2 n2 d2,.slice A3 n3 d3,.slice A4 n4 d4],.int .i64 fi,.int .i64 pc,.slice D k g] w (Flows (flowB x fi pc ts) w)
 refine jx ?_;intro HB0;refine jI ?_;intro HC0;rw[qMB hc];have b:(checkN x != 0)=true:=by simpa using hc
 generalize checkN x=cn at*;clear hc s0 s1 s2 h0 h1 h2 l0 l1 l2 m0 m1 m2
 go_enter Tryz.func151,Tryz.ntmps151
 go_wp2_with (first
  |(go_at_call 57
    refine(TE2.out _ (HB0.out _)).mono ?_;rintro e w1 ⟨rfl,hb1⟩;refine j5 ?_;intro HB1 x0 x1 x2 x3 x4;have hs1:w.heap.size<w1.heap.size:=zI;clear hb1))
 go_ret3
 exact qC8 HB1.out
theorem qMA (cs:List Value) (x:Mod) (fi pc:Int) (D:Option Addr) (k g:Nat) (ts:List Typ) (w:World) (h:modL.R (·<w.heap.size) w cs x) (hc:checkN x=0) (hf:hasB x.funcs.length fi=false):Calls Tryz.prog 151 #[vAgg cs,.int .i64 fi,.int .i64 pc,.slice D k g] w (Flows (flowB x fi pc ts) w):=by
 refine jb ?_;intro TE;obtain⟨_,_,_,_,_,rfl,⟨A0,d0,e0,l0,m0,s0⟩,⟨A1,d1,e1,l1,m1,s1⟩,⟨A2,d2,e2,l2,m2,s2⟩,⟨A3,d3,e3,-⟩,⟨A4,d4,e4,-⟩⟩:=h;simp only[List.cons.injEq,and_true] at e0 e1 e2 e3 e4;subst e0 e1 e2 e3 e4;refine jR ?_;intro n0 h0 n1 h1 n2 h2;rw[h0,h1,h2] at TE⊢;generalize x.ints.length=n3 at*;generalize x.texts.length=n4 at*;refine jW ?_;intro TE2;clear TE
 show Calls Tryz.prog 151 #[.agg #[.slice A0 n0 d0,.slice A1 n1 d1,.slice A2 n2 d2,.slice A3 n3 d3,.slice A4 n4 d4],.int .i64 fi,.int .i64 pc,.slice D k g] w (Flows (flowB x fi pc ts) w)
 refine jx ?_;intro HB0;refine jI ?_;intro HC0;rw[qKH hf];rw[hc] at TE2;have HF:=qBK (fun v=>qFz A1 n1 d1 fi v);rw[h1] at hf;rw[hf] at HF;clear hc hf s0 s1 s2 h0 h1 h2 l0 l1 l2 m0 m1 m2
 go_enter Tryz.func151,Tryz.ntmps151
 go_wp2_with (first
  |(go_at_call 57
    refine(TE2.out _ (HB0.out _)).mono ?_;rintro e w1 ⟨rfl,hb1⟩;refine j5 ?_;intro HB1 x0 x1 x2 x3 x4;have hs1:w.heap.size<w1.heap.size:=zI;clear hb1)
  |(go_at_call 220
    refine(HF.out _).mono ?_;rintro e w2 ⟨rfl,rfl⟩))
 go_ret3
 exact qC8 HB1.out
theorem qL9 (cs:List Value) (x:Mod) (j:Nat) (pc:Int) (D:Option Addr) (k g:Nat) (ts:List Typ) (w:World) (h:modL.R (·<w.heap.size) w cs x) (fn:Fn) (hc:checkN x=0) (hfn:x.funcs[j]? =some fn) (hp:hasB fn.code.length pc=false):Calls Tryz.prog 151 #[vAgg cs,.int .i64 (j:Int),.int .i64 pc,.slice D k g] w (Flows (flowB x (j:Int) pc ts) w):=by
 refine jb ?_;intro TE;obtain⟨_,_,_,_,_,rfl,⟨A0,d0,e0,l0,m0,s0⟩,⟨A1,d1,e1,l1,m1,s1⟩,⟨A2,d2,e2,l2,m2,s2⟩,⟨A3,d3,e3,-⟩,⟨A4,d4,e4,-⟩⟩:=h;simp only[List.cons.injEq,and_true] at e0 e1 e2 e3 e4;subst e0 e1 e2 e3 e4;refine jR ?_;intro n0 h0 n1 h1 n2 h2;rw[h0,h1,h2] at TE⊢;generalize x.ints.length=n3 at*;generalize x.texts.length=n4 at*;refine jW ?_;intro TE2;clear TE
 show Calls Tryz.prog 151 #[.agg #[.slice A0 n0 d0,.slice A1 n1 d1,.slice A2 n2 d2,.slice A3 n3 d3,.slice A4 n4 d4],.int .i64 (j:Int),.int .i64 pc,.slice D k g] w (Flows (flowB x (j:Int) pc ts) w)
 refine jx ?_;intro HB0;refine jI ?_;intro HC0;rw[qKG hfn hp];obtain⟨a,ccs,ea,hab,hcl,hR⟩:=s1.at hfn;subst ea;obtain⟨p0,p1,p2,rfl,hr1,hr2,⟨P0,c0,e4,f0,f1,t0⟩,⟨P1,c1,e5,f2,f3,t1⟩,⟨P2,c2,e6,f4,f5,t2⟩⟩:=hR;simp only[List.cons.injEq,and_true] at e4 e5 e6;subst e4 e5 e6;have HCL:Hid (∀v,Below w.heap.size w v→v.cell? (a.add (j*5))=some (.slice P0 fn.args.length c0)∧v.cell? ⟨(a.add (j*5)).block,(a.add (j*5)).off+1,none⟩=some (.int .i64 fn.ret.1)∧v.cell? ⟨(a.add (j*5)).block,(a.add (j*5)).off+2,none⟩=some (.int .i64 fn.ret.2)∧v.cell? ⟨(a.add (j*5)).block,(a.add (j*5)).off+3,none⟩=some (.slice P1 fn.locs.length c1)∧v.cell? ⟨(a.add (j*5)).block,(a.add (j*5)).off+4,none⟩=some (.slice P2 fn.code.length c2)):=fun v hb=>by
  refine qAN ?_;intro k0 k1 k2 k3 k4;rw[qBT a (j*5) 1 (by omega)] at k1;rw[qBT a (j*5) 2 (by omega)] at k2;rw[qBT a (j*5) 3 (by omega)] at k3;rw[qBT a (j*5) 4 (by omega)] at k4;exact⟨k0,k1,k2,k3,k4⟩
 have hjn:(j:Int)<(n1:Int):=by have:=(qBM.1 hfn).1;omega
 have hn8:n1≤8:=by have:=(qBw.1 (qBo hc)).f8;omega
 rw[hc] at TE2;have HF:=qBK (fun v=>qFz (some a) n1 d1 (j:Int) v);rw[show hasB n1 (j:Int)=true by simp[hasB];omega] at HF;have HI:=qBK (fun v=>qIz P2 fn.code.length c2 pc v);rw[hp] at HI;clear hc hp hcl s0 s1 s2 h0 h1 h2 l0 l1 l2 m0 m1 m2 t0 t1 t2 f0 f1 f2 f3 f4 f5;generalize fn.args.length=ua at*;generalize fn.locs.length=ul at*;generalize fn.code.length=uc at*
 go_enter Tryz.func151,Tryz.ntmps151
 go_wp2_with (first
  |(go_at_call 57
    refine(TE2.out _ (HB0.out _)).mono ?_;rintro e w1 ⟨rfl,hb1⟩;refine j5 ?_;intro HB1 x0 x1 x2 x3 x4;have hs1:w.heap.size<w1.heap.size:=zI;obtain⟨y0,y1,y2,y3,y4⟩:=HCL.out _ HB1.out;clear hb1)
  |(go_at_call 220
    refine(HF.out _).mono ?_;rintro e w2 ⟨rfl,rfl⟩)
  |(go_at_call 221
    refine(HI.out _).mono ?_;rintro e w2 ⟨rfl,rfl⟩))
 go_ret3
 exact qC8 HB1.out
section
variable {P:Program} {ops:Array Oper} {Q:Exit→Go.Act→World→Prop} {md:Region.Mode}
theorem qGy {l:List Bool} {i:Nat} (h:l[i]? =some false):(l.set i true).count false+1=l.count false:=by
 induction l generalizing i with
 |nil=>simp at h
 |cons x l ih=>
  cases i with
  |zero=>simp at h;subst h;simp
  |succ i=>
   have:=ih qy;simp only[List.set_cons_succ,List.count_cons]
   omega
theorem qGo {qBa:Array Bool} {i:Nat} (h:qBa.getD i true=false):qBa.toList[i]? =some false:=by
 rcases Nat.lt_or_ge i qBa.size with h'|h'
 · simp[h'] at h⊢
   exact h
 · simp[Array.getElem?_eq_none h'] at h
theorem qGT (I:Array Bool→Go.Act→World→Prop) (hstep:∀qBa a w i,I qBa a w→i∈Region.ready md ops qBa→wpOp P ops Q i (fun a' w'=>I (qBa.setIfInBounds i true) a' w') a w)
 (hend:∀qBa a w,I qBa a w→Region.ready md ops qBa=[]→Q .normal a w):∀(fuel:Nat) (qBa:Array Bool) (a:Go.Act) (w:World),I qBa a w→qBa.toList.count false≤fuel→wpAny P md ops Q fuel qBa a w
 |0,qBa,a,w,h,hf=>by
  have hr:Region.ready md ops qBa=[]:=by
   cases e:Region.ready md ops qBa with
   |nil=>rfl
   |cons i rs=>
    have h1:=qGy (qGo (mem_ready.1 (e▸List.mem_cons_self:i∈Region.ready md ops qBa)).1)
    omega
  exact⟨hr,hend qBa a w h hr⟩
 |fuel+1,qBa,a,w,h,hf=>by
  refine⟨fun hr=>hend qBa a w h hr,fun i hi=>wpOp_mono (fun a' w' h'=> ?_) (hstep qBa a w i h hi)⟩;refine qGT I hstep hend fuel _ a' w' h' ?_;have h1:=qGy (qGo (mem_ready.1 hi).1);rw[Array.toList_setIfInBounds]
  omega
def dstB (ops:Array Oper) (n:Nat):Bool:=
 (List.range ops.size).all fun j=>((ops[j]?).map fun o=>o.guard.isNone && o.after.toList.all (fun e=>decide (e.on<j)) && (match o.dst with
   |some d=>decide (d<n) && (List.range ops.size).all (fun k=>k==j || ((ops[k]?).map fun q=>q.dst != some d).getD true)
   |none=>false)).getD true
structure Fram (ops:Array Oper) (n:Nat) (a0 a:Go.Act):Prop where
 size:a.tmps.size=n
 defers:a.defers=a0.defers
 rest:∀t,(∀(k:Nat) (q:Oper),ops[k]? =some q→q.dst≠some t)→a.tmps.getD t undef=a0.tmps.getD t undef
end
inductive SL where
 |i (k:IntKind) (n:Int)|y (x:Bool)|z|u|q (k:Nat)|p (b o:Nat)|s (b o n c:Nat)
inductive SV where
 |c (x:SL)|a (l:List SL)
abbrev Bk:=Option (Nat×List SL)
inductive RS where
 |val (r:SV)|new (T:Nat) (cs:List SL) (n:Option Nat)
def SL.refs:SL→List Nat
 | .p g _=>[g]| .s g _ _ _=>[g]|_=>[]
def refsL (l:List SL):List Nat:=l.flatMap SL.refs
def SV.refs:SV→List Nat
 | .c x=>x.refs| .a l=>refsL l
def SV.cells:SV→List SL
 | .c x=>[x]| .a l=>l
def lv (qv:Nat→Value) (ad:Nat→Nat):SL→Value
 | .i k n=> .int k n| .y x=> .bool x| .z=> .slice none 0 0| .u=>undef| .q k=>qv k
 | .p b o=> .pointer (some ⟨ad b,o,none⟩)| .s b o n c=> .slice (some ⟨ad b,o,none⟩) n c
def vs (qv:Nat→Value) (ad:Nat→Nat):SV→Value
 | .c x=>lv qv ad x| .a l=> .agg (l.map (lv qv ad)).toArray
def slOf:Value→Option SL
 | .int k n=>some (.i k n)| .bool x=>some (.y x)| .slice none 0 0=>some .z|_=>none
def opv (ρ:Nat→SV):Operand→Option SV
 | .tmp t=>some (ρ t)| .const v=>(slOf v).map .c|_=>none
def szT (P:Program) (t:Nat):Option Nat:=(P.info? t).map (·.size)
def zerS (P:Program) (t:Nat):Option (List SL):=((P.info? t).bind (·.zero)).bind fun v=>v.cells.toList.mapM slOf
def setS {α:Type} (cs:List α) (off:Nat):List α→List α
 |[]=>cs|x::l=>setS (cs.set off x) (off+1) l
def fillS (place:Nat→Option (Nat×Nat)) (cs:List SL):List (Nat×List SL)→Option (List SL)
 |[]=>some cs
 |(i,l)::rest=>match place i with
  |none=>none
  |some (off,size)=>if l.length≠size || off+l.length>cs.length then none else fillS place (setS cs off l) rest
def partsS (ρ:Nat→SV) (ps:List (Nat×Operand)):Option (List (Nat×List SL)):=ps.mapM fun x=>(opv ρ x.2).map fun v=>(x.1,v.cells)
def placeS (P:Program) (fs:Array Field) (i:Nat):Option (Nat×Nat):=fs[i]?.bind fun f=>(szT P f.type).map fun n=>(f.offset,n)
def ex0 (P:Program) (ρ:Nat→SV) (bl:List Bk):Op→Option RS
 | .move x| .assign x=>(opv ρ x).map .val
 | .alloc T=>(zerS P T).map fun cs=> .new T cs none
 | .box T x=>(opv ρ x).map fun v=> .new T v.cells none
 | .build T ps=>match P.underlying T,zerS P T,partsS ρ ps.toList with
   |some (.struct fs),some z,some l=>(fs.toList.mapM fun f=>(P.info? f.type).map fun i=>(f.offset,i.size)).bind fun pl=>(fillS (fun i=>pl[i]?) z l).map fun cs=> .val (.a cs)
   |_,_,_=>none
 | .buildSlice T len ps=>match P.underlying T with
   |some (.slice e)=>match szT P e,zerS P e,partsS ρ ps.toList with
    |some m,some z,some l=>if len*m≤2 ^ 24∧len*m≠0∧z.length≠0 then (fillS (fun i=>some (i*m,m)) ((List.range (len*m)).map fun k=>z.getD (k % z.length) .u) l).map fun cs=> .new e cs (some len) else none
    |_,_,_=>none
   |_=>none
 | .load T x=>match opv ρ x with
   |some (.c (.p b o))=>match bl[b]?,P.underlying T,szT P T with
    |some (some (_,cs)),some d,some n=>if d.isRow then if o+n≤cs.length then some (.val (.a ((cs.drop o).take n))) else none else cs[o]?.map fun c=> .val (.c c)
    |_,_,_=>none
   |_=>none
 | .fieldAddr T x f=>match opv ρ x,P.underlying T with
   |some (.c (.p b o)),some (.struct fs)=>match placeS P fs f with
    |some (off,_+1)=>some (.val (.c (.p b (o+off))))
    |_=>none
   |_,_=>none
 | .field T x f=>match opv ρ x,P.underlying T with
   |some (.a l),some (.struct fs)=>match fs[f]? with
    |some fd=>match P.underlying fd.type,l[fd.offset]? with
     |some d,some c=>if d.isRow then none else some (.val (.c c))
     |_,_=>none
    |_=>none
   |_,_=>none
 | .binOp op T x y _=>match opv ρ x,opv ρ y with
   |some (.c (.i k a)),some (.c (.i k' b))=>if k=k' then (match op with| .eql=>some (.val (.c (.y (a==b))))| .neq=>some (.val (.c (.y (a != b))))| .lss=>some (.val (.c (.y (decide (a<b)))))|_=>none) else none
   |_,_=>none
 |_=>none
section
variable {P:Program} {qv:Nat→Value} {ad ad':Nat→Nat} {ρ:Nat→SV}
theorem qIf {x:SL} (h:∀j∈x.refs,ad j=ad' j):lv qv ad x=lv qv ad' x:=by
 cases x<;>simp_all [lv,SL.refs]
theorem qCy {l:List SL} (h:∀j∈refsL l,ad j=ad' j):l.map (lv qv ad)=l.map (lv qv ad'):=
 List.map_congr_left fun x hx=>qIf fun j hj=>h j (List.mem_flatMap.2 ⟨x,hx,hj⟩)
theorem qDo {x:SV} (h:∀j∈x.refs,ad j=ad' j):vs qv ad x=vs qv ad' x:=by
 cases x with
 |c x=>exact qIf h
 |a l=>simp only[vs,qCy h]
theorem qKo {v:Value} {x:SL} (h:slOf v=some x):lv qv ad x=v:=by
 unfold slOf at h;split at h<;>first|(injection h with h;subst h;rfl)|cases h
theorem qFb:∀{vs:List Value} {l:List SL},vs.mapM slOf=some l→l.map (lv qv ad)=vs
 |[],l,h=>by simp at h;subst h;rfl
 |v::vs,l,h=>by
  simp only[List.mapM_cons,Option.bind_eq_bind,Option.bind_eq_some_iff,Option.pure_def,Option.some.injEq] at h;obtain⟨x,hx,l',hl',rfl⟩:=h;rw[List.map_cons,qKo hx,qFb hl']
def Agr (qv:Nat→Value) (ad:Nat→Nat) (ρ:Nat→SV) (a:Go.Act) (o:Op):Prop:=∀x∈o.operands,∀v,opv ρ x=some v→a.eval x=vs qv ad v
theorem qFl {a:Go.Act} {x:Operand} {v:SV} (ht:∀t,x= .tmp t→a.tmps.getD t undef=vs qv ad (ρ t)) (h:opv ρ x=some v):a.eval x=vs qv ad v:=by
 cases x with
 |tmp t=>simp[opv] at h;subst h;exact ht t rfl
 |const c=>
  simp only[opv,Option.map_eq_some_iff] at h;obtain⟨y,hy,rfl⟩:=h;exact(qKo hy).symm
 |global g=>simp[opv] at h
 |func f=>simp[opv] at h
theorem qEL {t n:Nat} (h:szT P t=some n):(sizeOf t).run P w= .ok n w:=by
 unfold szT at h
 cases hq:P.info? t with
 |none=>simp[hq] at h
 |some i=>simp[hq] at h;simp[sizeOf,typeInfo,hq,h]
theorem qHs {t:Nat} {l:List SL} (h:zerS P t=some l):∃z,(zeroValue t).run P w= .ok z w∧z.cells=(l.map (lv qv ad)).toArray:=by
 unfold zerS at h;simp only[Option.bind_eq_some_iff] at h;obtain⟨v,⟨i,hi,hz⟩,hl⟩:=h;exact⟨v,by simp[zeroValue,typeInfo,hi,hz],by rw[qFb hl]⟩
theorem qMm {v:SV} (h:∀x∈v.cells,(lv qv ad x).cells= #[lv qv ad x]):(vs qv ad v).cells=(v.cells.map (lv qv ad)).toArray:=by
 cases v with
 |c x=>exact h x (by simp[SV.cells])
 |a l=>rfl
theorem qH8 {α β:Type} (f:α→β):∀(l cs:List α) (off:Nat),(setS cs off l).map f=setS (cs.map f) off (l.map f)
 |[],cs,off=>rfl
 |x::l,cs,off=>by simp only[setS,List.map_cons,qH8 f l,List.map_set]
theorem qGZ:∀(l:List Value) (cs:Array Value) (off k:Nat),(l.zipIdx k).foldl (fun(cs:Array Value) (x:Value×Nat)=>cs.setIfInBounds (off+x.2) x.1) cs=(setS cs.toList (off+k) l).toArray
 |[],cs,off,k=>by simp[setS]
 |x::l,cs,off,k=>by
  simp only[List.zipIdx_cons,List.foldl_cons,qGZ l,setS,Array.toList_setIfInBounds,Nat.add_assoc]
end
end Go.Proofs.YtgdbhanhmenmfaaGreat
