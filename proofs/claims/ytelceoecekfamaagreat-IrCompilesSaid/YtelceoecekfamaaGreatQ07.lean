/-
Ixbfn Ixbim Sc4 Rnm Rvr Rgd Rkt Rtt Rar
-/
import Derived.Test.YtelceoecekfamaaGreatQ01
import Derived.Test.YtelceoecekfamaaGreatQ02
import Derived.Test.YtelceoecekfamaaGreatQ05
import Derived.Test.YtelceoecekfamaaGreatQ06
import Derived.Laws.EntriesVeiled
import Derived.BigQuiet
set_option linter.unusedSimpArgs false
set_option linter.unusedVariables false
set_option maxRecDepth 100000
set_option maxHeartbeats 4000000
namespace Go.Proofs.YtelceoecekfamaaGreat
open Go.RowKit
theorem qL {P:Prop} (h:P:=by
 clear h0 h1 h2 h3 h4 g0 g1 g2 hR
 go_enter Tryz.func15,Tryz.ntmps15
 go_wp2_with fail
 go_ret;exact⟨by rw[HN.out];rfl,HBel.out⟩):P:=h
theorem qm {P:Prop} (h:P:=by
 go_ret;refine⟨_,rfl,?_,HB0'.out.trans (HB3.out.mono HB0'.out.size)⟩;rw[List.length_append];exact qBQ HO3.out HB0'.out.size):P:=h
theorem q8 {P:Prop} (h:P:=by
 go_enter Tryz.func28,Tryz.ntmps28
 exact qC):P:=h
theorem zB {P:Prop} (h:P:=by
 go_enter Tryz.func47,Tryz.ntmps47
 go_wp2
 go_ret;exact⟨rfl,qAk _ _⟩):P:=h
theorem zH {P:Prop} (h:P:=by
 clear h;generalize hostB x=gd at*;generalize x.1=q1 at*;generalize x.2=q2 at*
 go_enter Tryz.func16,Tryz.ntmps16
 go_wp2_with fail
 go_ret;exact⟨by rw[HD.out];rfl,HB0.out _⟩):P:=h
theorem zO {P:Prop} (h:P:=by
 have hge:(n0:Int)≤a:=by omega
 have hd:decide (a<(n0:Int))=false:=by simp;omega
 clear h0 h1 h2 h3 h4 g0 g1 g2 hR
 go_enter Tryz.func15,Tryz.ntmps15
 exact qX):P:=h
theorem zb {P:Prop} (h:P:=by
 generalize r.length=rl at*;have hk0:0≤(k:Int):=by omega
 clear h0 h1 h2 h3 h4 g0 g1 g2 hR hr hc
 go_enter Tryz.func15,Tryz.ntmps15
 exact qX):P:=h
theorem zy {P Q:Prop} (q:Q) (h:Q→P:=by
 have HC0:Hid (C5 w.heap.size (.slice A0 n0 d0) (.slice A1 n1 d1) (.slice A2 n2 d2) (.slice A3 n3 d3) (.slice A4 n4 d4) (w.alloc (.cells #[.slice A0 n0 d0,.slice A1 n1 d1,.slice A2 n2 d2,.slice A3 n3 d3,.slice A4 n4 d4] 28))):=by show C5 _ _ _ _ _ _ _;simp[C5,go_sem]
 intro kz;revert HC0;exact kz):P:=h q
theorem qIB (A:Option Addr) (n c:Nat) (xs:List Fn) (g:Fn→Bool) (p7:Addr) (w:World) (hl:xs.length=n) (h:Sq fnL (·<w.heap.size) w A xs) (hn2:n≤9223372036854775807)
 (hG:∀(w1:World) (cs:List Value) (x:Fn),Below w.heap.size w w1→x∈xs→fnL.R (·<w1.heap.size) w1 cs x→Calls Tryz.prog 36 #[vAgg cs,.pointer (some p7)] w1 (Tells (g x) w1)):
 Calls Tryz.prog 63 #[.slice A n c,.func (.func 36) #[] #[.pointer (some p7)]] w fun e w'=>∃k:Int,e= .returned (.int .i64 k)∧decide (0≤k)=xs.any g∧Below w.heap.size w w':=by
 refine jn ?_;intro HL HS HP0;clear hl h hG
 go_enter Tryz.func63,Tryz.ntmps63
 go_wp2_with fail
 go_loopw [8] (fun i wr=>∃k:Nat,k≤n∧i= .int .i64 (k:Nat)∧(xs.take k).any g=false∧Below w.heap.size w wr) (fun i _=>n-(intOf i).toNat)
 case atStart=>exact⟨0,qAq _,rfl,by simp,qAk _ _⟩
 case round=>
  obtain⟨k,hk,rfl,hall,hbel⟩:=hrel;have HA:=qAg hall;refine jc ?_;intro HB hs;clear hall hbel
  by_cases hlt:k<n
  · skip
    refine z7 ?_;intro x hx hmem;obtain⟨a,cs,rfl,hab,hc,hr⟩:=HS.out.at hx;have HX:=qAg hx;clear hx;have HR:=qAg hr;obtain⟨p0,p1,p2,rfl,-,-,⟨A4,d4,e4,-⟩,⟨A5,d5,e5,-⟩,⟨A6,d6,e6,-⟩⟩:=hr;simp only[List.cons.injEq,and_true] at e4 e5 e6;subst e4 e5 e6;refine qAJ ?_;intro c0 c1;rw[qAm a (k*5) 1 (by omega)] at c1;have c2:=(HB.out.cell (p:=a.add (k*5+2)) qB).trans (hc 2 _ rfl);rw[qAm a (k*5) 2 (by omega)] at c2;have c3:=(HB.out.cell (p:=a.add (k*5+3)) qB).trans (hc 3 _ rfl);rw[qAm a (k*5) 3 (by omega)] at c3;have c4:=(HB.out.cell (p:=a.add (k*5+4)) qB).trans (hc 4 _ rfl);rw[qAm a (k*5) 4 (by omega)] at c4;have HP:Hid (∀w1,Below w.heap.size w w1→Calls Tryz.prog 36 #[.agg #[.slice A4 x.args.length d4,.int .i64 x.ret.1,.int .i64 x.ret.2,.slice A5 x.locs.length d5,.slice A6 x.code.length d6],.pointer (some p7)] w1 (Tells (g x) w1)):=fun w1 hb=>HP0.out w1 [.slice A4 x.args.length d4,.int .i64 x.ret.1,.int .i64 x.ret.2,.slice A5 x.locs.length d5,.slice A6 x.code.length d6] x hb hmem (fnL.wide (fnL.keep HR.out fun b hb1=>hb.block b hb1) fun b hb1=>qAh hb1 hb.size);clear hc;have hk0:0≤(k:Int):=by omega
    cases hg:g x
    · rw[hg] at HP
      have HG:=qAg hg;clear hg
      go_wp2_with (first
       |(go_at_call 36
         refine(HP.out _ HB.out).mono ?_;rintro e w2 ⟨rfl,hb2⟩;refine qAH ?_;intro Hb2;clear hb2))
      exact qp
    · rw[hg] at HP
      refine qAd ?_;intro e E;clear e hg
      go_wp2_with (first
       |(go_at_call 36
         refine(HP.out _ HB.out).mono ?_;rintro e w2 ⟨rfl,hb2⟩;refine qAH ?_;intro Hb2;clear hb2))
      exact zG
  · exact qk
theorem qFI (A:Option Addr) (n c:Nat) (xs:List Fn) (g:Fn→Bool) (p7:Addr) (w:World) (hl:xs.length=n) (h:Sq fnL (·<w.heap.size) w A xs) (hn2:n≤9223372036854775807)
 (hG:∀(w1:World) (cs:List Value) (x:Fn),Below w.heap.size w w1→x∈xs→fnL.R (·<w1.heap.size) w1 cs x→Calls Tryz.prog 36 #[vAgg cs,.pointer (some p7)] w1 (Tells (g x) w1)):
 Calls Tryz.prog 41 #[.slice A n c,.func (.func 36) #[] #[.pointer (some p7)]] w (Tells (xs.any g) w):=by
 have HC:=qAg (qIB A n c xs g p7 w hl h hn2 hG);clear hl h hG;generalize xs.any g=ab at*
 go_enter Tryz.func41,Tryz.ntmps41
 go_wp2_with (first|(go_at_call 63;refine HC.out.mono ?_;rintro e w1 ⟨k,rfl,hk,hb⟩;have HB:=qAg hb;have HK:=qAg hk;clear hb hk))
 go_ret;exact⟨by rw[←HK.out];rfl,HB.out⟩
theorem qIA (A:Option Addr) (n c:Nat) (xs:List Imp) (g:Imp→Bool) (w:World) (hl:xs.length=n) (h:Sq impL (·<w.heap.size) w A xs) (hn2:n≤9223372036854775807)
 (hG:∀(w1:World) (cs:List Value) (x:Imp),Below w.heap.size w w1→x∈xs→impL.R (·<w1.heap.size) w1 cs x→Calls Tryz.prog 43 #[vAgg cs] w1 (Tells (g x) w1)):
 Calls Tryz.prog 64 #[.slice A n c,.func (.func 43) #[] #[]] w fun e w'=>∃k:Int,e= .returned (.int .i64 k)∧decide (0≤k)=xs.any g∧Below w.heap.size w w':=by
 refine jn ?_;intro HL HS HP0;clear hl h hG
 go_enter Tryz.func64,Tryz.ntmps64
 go_wp2_with fail
 go_loopw [8] (fun i wr=>∃k:Nat,k≤n∧i= .int .i64 (k:Nat)∧(xs.take k).any g=false∧Below w.heap.size w wr) (fun i _=>n-(intOf i).toNat)
 case atStart=>exact⟨0,qAq _,rfl,by simp,qAk _ _⟩
 case round=>
  obtain⟨k,hk,rfl,hall,hbel⟩:=hrel;have HA:=qAg hall;refine jc ?_;intro HB hs;clear hall hbel
  by_cases hlt:k<n
  · skip
    refine z7 ?_;intro x hx hmem;obtain⟨a,cs,rfl,hab,hc,hr⟩:=HS.out.at hx;have HX:=qAg hx;clear hx;have HR:=qAg hr;obtain⟨p0,rfl,-,-,⟨A4,d4,e4,-⟩⟩:=hr;simp only[List.cons.injEq,and_true] at e4;subst e4;refine jT ?_;intro c0 c1;rw[qAm a (k*3) 1 (by omega)] at c1;refine qAI ?_;intro c2;rw[qAm a (k*3) 2 (by omega)] at c2;have HP:Hid (∀w1,Below w.heap.size w w1→Calls Tryz.prog 43 #[.agg #[.slice A4 x.args.length d4,.int .i64 x.ret.1,.int .i64 x.ret.2]] w1 (Tells (g x) w1)):=fun w1 hb=>HP0.out w1 [.slice A4 x.args.length d4,.int .i64 x.ret.1,.int .i64 x.ret.2] x hb hmem (impL.wide (impL.keep HR.out fun b hb1=>hb.block b hb1) fun b hb1=>qAh hb1 hb.size);clear hc;have hk0:0≤(k:Int):=by omega
    cases hg:g x
    · rw[hg] at HP
      have HG:=qAg hg;clear hg
      go_wp2_with (first
       |(go_at_call 43
         refine(HP.out _ HB.out).mono ?_;rintro e w2 ⟨rfl,hb2⟩;refine qAH ?_;intro Hb2;clear hb2))
      exact qp
    · rw[hg] at HP
      refine qAd ?_;intro e E;clear e hg
      go_wp2_with (first
       |(go_at_call 43
         refine(HP.out _ HB.out).mono ?_;rintro e w2 ⟨rfl,hb2⟩;refine qAH ?_;intro Hb2;clear hb2))
      exact zG
  · exact qk
theorem qFH (A:Option Addr) (n c:Nat) (xs:List Imp) (g:Imp→Bool) (w:World) (hl:xs.length=n) (h:Sq impL (·<w.heap.size) w A xs) (hn2:n≤9223372036854775807)
 (hG:∀(w1:World) (cs:List Value) (x:Imp),Below w.heap.size w w1→x∈xs→impL.R (·<w1.heap.size) w1 cs x→Calls Tryz.prog 43 #[vAgg cs] w1 (Tells (g x) w1)):
 Calls Tryz.prog 42 #[.slice A n c,.func (.func 43) #[] #[]] w (Tells (xs.any g) w):=by
 have HC:=qAg (qIA A n c xs g w hl h hn2 hG);clear hl h hG;generalize xs.any g=ab at*
 go_enter Tryz.func42,Tryz.ntmps42
 go_wp2_with (first|(go_at_call 64;refine HC.out.mono ?_;rintro e w1 ⟨k,rfl,hk,hb⟩;have HB:=qAg hb;have HK:=qAg hk;clear hb hk))
 go_ret;exact⟨by rw[←HK.out];rfl,HB.out⟩
def Errs (n:Int) (w:World) (e:Ending) (w':World):Prop:=e= .returned (.int .i64 n)∧Below w.heap.size w w'
theorem qIK (cs:List Value) (x:Mod) (w:World) (h:modL.R (·<w.heap.size) w cs x):Calls Tryz.prog 22 #[vAgg cs] w (Errs (checkN x) w):=by
 have TE:Hid (∀w1,Below w.heap.size w w1→Calls Tryz.prog 35 #[vAgg cs] w1 (Encodes x w1)):=fun w1 hb=>qG3 cs x w1 (qBS h hb);obtain⟨_,_,_,_,_,rfl,⟨A0,d0,e0,l0,m0,s0⟩,⟨A1,d1,e1,l1,m1,s1⟩,⟨A2,d2,e2,l2,m2,s2⟩,⟨A3,d3,e3,-⟩,⟨A4,d4,e4,-⟩⟩:=h;simp only[List.cons.injEq,and_true] at e0 e1 e2 e3 e4;subst e0 e1 e2 e3 e4;refine z9 ?_;intro n0 h0 n1 h1 n2 h2;refine jx ?_;intro n3 h3 n4 h4;rw[h0,h1,h2,h3,h4] at TE⊢;unfold maxLen at m0 m1 m2;rw[h0] at l0;rw[h1] at l1;rw[h2] at l2;have TE2:Hid (∀w1,Below w.heap.size w w1→Calls Tryz.prog 35 #[.agg #[.slice A0 n0 d0,.slice A1 n1 d1,.slice A2 n2 d2,.slice A3 n3 d3,.slice A4 n4 d4]] w1 (Encodes x w1)):=TE.out;clear TE
 show Calls Tryz.prog 22 #[.agg #[.slice A0 n0 d0,.slice A1 n1 d1,.slice A2 n2 d2,.slice A3 n3 d3,.slice A4 n4 d4]] w (Errs (checkN x) w)
 refine jW ?_;intro HB0;refine zy ?_;intro HC0
 cases hf:fitB x
 · have HF:=qAg hf
   have HN:=qAg (qCD hf);generalize checkN x=cn at*;clear hf s0 s1 s2 h0 h1 h2 h3 h4
   go_enter Tryz.func22,Tryz.ntmps22
   go_wp2_with (first
    |(go_at_call 35
      refine(TE2.out _ (HB0.out _)).mono ?_;rintro e w1 ⟨hb1,⟨h1,rfl⟩|⟨h1,h2⟩⟩;rotate_left
      · rw[HF.out] at h1
        cases h1
      refine jU ?_;intro HB1;clear hb1 h1))
   go_ret;exact⟨by rw[HN.out];rfl,HB1.out⟩
 · have HF:=qAg hf
   have hF:=qA1.1 hf;have T1:Hid (∀w1 (B:Nat),Below w.heap.size w w1→C5 B (.slice A0 n0 d0) (.slice A1 n1 d1) (.slice A2 n2 d2) (.slice A3 n3 d3) (.slice A4 n4 d4) w1→Calls Tryz.prog 41 #[.slice A1 n1 d1,.func (.func 36) #[] #[.pointer (some ⟨B,0,none⟩)]] w1 (Tells (x.funcs.any (badFn x)) w1)):=fun w1 B hb hc=>
    qFI A1 n1 d1 x.funcs (badFn x) ⟨B,0,none⟩ w1 h1 ((s1.keep fun b hb1=>hb.block b hb1).wide fun b hb1=>qAh hb1 hb.size) (by omega) fun w2 cs y hb2 hy hr=>by
     have hb3:Below w.heap.size w w2:=hb.trans (hb2.mono hb.size);exact qG6 A0 A1 A2 A3 A4 n0 n1 n2 n3 n4 d0 d1 d2 d3 d4 x B y w2 h0 h1 h2 h3 h4 (by omega) ((s0.keep fun b hb1=>hb3.block b hb1).wide fun b hb1=>qAh hb1 hb3.size) (hc.below hb2 (qAr w1 _ hc.1)) cs hr (by rw[←h0];exact hF.funcs y hy)
   have T2:Hid (∀w1,Below w.heap.size w w1→Calls Tryz.prog 42 #[.slice A2 n2 d2,.func (.func 43) #[] #[]] w1 (Tells (x.imps.any badImp) w1)):=fun w1 hb=>
    qFH A2 n2 d2 x.imps badImp w1 h2 ((s2.keep fun b hb1=>hb.block b hb1).wide fun b hb1=>qAh hb1 hb.size) (by omega) fun w2 cs y _ _ hr=>qDY y w2 cs hr
   have HO:Hid (badM x=(x.funcs.any (badFn x) || x.imps.any badImp)):=rfl;have HN:Hid (checkN x=if badM x=true then 1 else 0):=by show checkN x=_;simp[checkN,hf]
   generalize checkN x=cn at*;generalize badM x=bm at*;generalize x.funcs.any (badFn x)=b1 at*;generalize x.imps.any badImp=b2 at*;clear hf hF s0 s1 s2 h0 h1 h2 h3 h4
   cases b1
   case' false=>cases b2
   all_goals
    go_enter Tryz.func22,Tryz.ntmps22
    go_wp2_with (first
     |(go_at_call 35
       refine(TE2.out _ (HB0.out _)).mono ?_;rintro e w1 ⟨hb1,⟨h1,h2⟩|⟨h1,u,rfl,hown⟩⟩
       · rw[HF.out] at h1
         cases h1
       refine jU ?_;intro HB1;have HC1:=qAg (HC0.out.below hb1 (by simp));have hs1:w.heap.size<w1.heap.size:=qR;obtain⟨A5,c5,rfl,-,-,-,-⟩:=qAu hown;obtain⟨x0,x1,x2,x3,x4⟩:=HC1.out;clear hb1 h1 hown)
     |(go_at_call 41
       refine(T1.out _ _ HB1.out HC1.out).mono ?_;rintro e w2 ⟨rfl,hb2⟩;refine jX ?_;intro HB2;obtain⟨y0,y1,y2,y3,y4⟩:=HC1.out.below hb2 hs1;clear hb2)
     |(go_at_call 42
       refine(T2.out _ HB2.out).mono ?_;rintro e w3 ⟨rfl,hb3⟩;have HB3:=qAg (HB2.out.trans (hb3.mono HB2.out.size));clear hb3))
    go_ret
    first|exact⟨by rw[HN.out,HO.out];rfl,HB3.out⟩|exact⟨by rw[HN.out,HO.out];rfl,HB2.out⟩
theorem qH0 (A0 A1 A2 A3 A4 P0 P1 P2:Option Addr) (n0 n1 n2 n3 n4 d0 d1 d2 d3 d4 u0 u1 u2 c0 c1 c2:Nat) (r1 r2:Int) (m:Mod) (f:Fn) (o a b:Int) (w:World) (h0:m.recs.length=n0) (h1:m.funcs.length=n1) (h2:m.imps.length=n2) (h3:m.ints.length=n3) (h4:m.texts.length=n4) (g0:f.args.length=u0) (g1:f.locs.length=u1) (g2:f.code.length=u2) (hn0:n0≤9223372036854775807) (hu0:u0≤1000) (hu1:u1≤1000) (ha:0≤a∧a≤255) (hb:0≤b∧b≤255) (hR:Sq tysL (·<w.heap.size) w A0 m.recs):
 Calls Tryz.prog 15 #[.agg #[.slice A0 n0 d0,.slice A1 n1 d1,.slice A2 n2 d2,.slice A3 n3 d3,.slice A4 n4 d4],.agg #[.slice P0 u0 c0,.int .i64 r1,.int .i64 r2,.slice P1 u1 c1,.slice P2 u2 c2],.agg #[.int .i64 o,.int .i64 a,.int .i64 b]] w (Tells (namedB m f (o,a,b)) w):=by
 have HBel:Hid (Below w.heap.size w (((w.alloc (.cells #[.slice A0 n0 d0,.slice A1 n1 d1,.slice A2 n2 d2,.slice A3 n3 d3,.slice A4 n4 d4] 28)).alloc (.cells #[.slice P0 u0 c0,.int .i64 r1,.int .i64 r2,.slice P1 u1 c1,.slice P2 u2 c2] 44)).alloc (.cells #[.int .i64 o,.int .i64 a,.int .i64 b] 52))):=(((qAk _ _).alloc (qAi _) _).alloc (by simp) _).alloc qK _
 by_cases e0:o=0
 · subst e0
   have HN:Hid (namedB m f (0,a,b)=decide (a<(n3:Int))):=by show namedB _ _ _=_;simp[namedB,h0,h1,h2,h3,h4,g0,g1,g2]
   generalize namedB m f (0,a,b)=nb at*;exact qL
 by_cases e1:o=1
 · subst e1
   have HN:Hid (namedB m f (1,a,b)=decide (a<(n4:Int))):=by show namedB _ _ _=_;simp[namedB,h0,h1,h2,h3,h4,g0,g1,g2]
   generalize namedB m f (1,a,b)=nb at*;exact qL
 by_cases e3:o=3
 · subst e3
   have HN:Hid (namedB m f (3,a,b)=decide (a<(u0:Int)+(u1:Int))):=by show namedB _ _ _=_;simp[namedB,h0,h1,h2,h3,h4,g0,g1,g2]
   generalize namedB m f (3,a,b)=nb at*;exact qL
 by_cases e4:o=4
 · subst e4
   have HN:Hid (namedB m f (4,a,b)=decide (a<(u0:Int)+(u1:Int))):=by show namedB _ _ _=_;simp[namedB,h0,h1,h2,h3,h4,g0,g1,g2]
   generalize namedB m f (4,a,b)=nb at*;exact qL
 by_cases e23:o=23
 · subst e23
   have HN:Hid (namedB m f (23,a,b)=decide (a<(u2:Int))):=by show namedB _ _ _=_;simp[namedB,h0,h1,h2,h3,h4,g0,g1,g2]
   generalize namedB m f (23,a,b)=nb at*;exact qL
 by_cases e24:o=24
 · subst e24
   have HN:Hid (namedB m f (24,a,b)=decide (a<(u2:Int))):=by show namedB _ _ _=_;simp[namedB,h0,h1,h2,h3,h4,g0,g1,g2]
   generalize namedB m f (24,a,b)=nb at*;exact qL
 by_cases e25:o=25
 · subst e25
   have HN:Hid (namedB m f (25,a,b)=decide (a<(n1:Int))):=by show namedB _ _ _=_;simp[namedB,h0,h1,h2,h3,h4,g0,g1,g2]
   generalize namedB m f (25,a,b)=nb at*;exact qL
 by_cases e27:o=27
 · subst e27
   have HN:Hid (namedB m f (27,a,b)=decide (a<(n2:Int))):=by show namedB _ _ _=_;simp[namedB,h0,h1,h2,h3,h4,g0,g1,g2]
   generalize namedB m f (27,a,b)=nb at*;exact qL
 by_cases e28:o=28
 · subst e28
   have HN:Hid (namedB m f (28,a,b)=decide (a<(n0:Int))):=by show namedB _ _ _=_;simp[namedB,h0,h1,h2,h3,h4,g0,g1,g2]
   generalize namedB m f (28,a,b)=nb at*;exact qL
 by_cases e29:o=29
 · subst e29
   by_cases hlt:a<(n0:Int)
   · obtain⟨k,rfl⟩:∃k:Nat,a=(k:Int):=⟨a.toNat,by omega⟩
     refine jv ?_;intro hk r hr;have HN:Hid (namedB m f (29,(k:Int),b)=decide (b<(r.length:Int))):=by show namedB _ _ _=_;simp[namedB,hr]
     obtain⟨a0,cs,ea,hab,hc,hRr⟩:=hR.at hr;subst ea;obtain⟨Q0,q0,rfl,-,-,-⟩:=hRr;refine qAB ?_;intro cr cr2;generalize namedB m f (29,(k:Int),b)=nb at*;exact zb
   · have HN:Hid (namedB m f (29,a,b)=false):=by
      show namedB _ _ _=_
      refine qAa ?_;intro hz;simp[namedB,hz]
     generalize namedB m f (29,a,b)=nb at*;exact zO
 by_cases e30:o=30
 · subst e30
   by_cases hlt:a<(n0:Int)
   · obtain⟨k,rfl⟩:∃k:Nat,a=(k:Int):=⟨a.toNat,by omega⟩
     refine jv ?_;intro hk r hr;have HN:Hid (namedB m f (30,(k:Int),b)=decide (b<(r.length:Int))):=by show namedB _ _ _=_;simp[namedB,hr]
     obtain⟨a0,cs,ea,hab,hc,hRr⟩:=hR.at hr;subst ea;obtain⟨Q0,q0,rfl,-,-,-⟩:=hRr;refine qAB ?_;intro cr cr2;generalize namedB m f (30,(k:Int),b)=nb at*;exact zb
   · have HN:Hid (namedB m f (30,a,b)=false):=by
      show namedB _ _ _=_
      refine qAa ?_;intro hz;simp[namedB,hz]
     generalize namedB m f (30,a,b)=nb at*;exact zO
 refine jY ?_;intro HN b0 b1 b3 b4 b23 b24 b25 b27 b28 b29 b30;generalize namedB m f (o,a,b)=nb at*;clear h0 h1 h2 h3 h4 g0 g1 g2 hR e0 e1 e3 e4 e23 e24 e25 e27 e28 e29 e30
 go_enter Tryz.func15,Tryz.ntmps15
 go_wp2_with fail
 go_ret;exact⟨by rw[HN.out];rfl,HBel.out⟩
theorem qF0 (x:Typ) (w:World):Calls Tryz.prog 16 #[.agg #[.int .i64 x.1,.int .i64 x.2]] w (Tells (hostB x) w):=by
 refine jW ?_;intro HB0
 by_cases h:x.1=1
 · have HD:Hid (hostB x=true):=by show hostB x=_;simp[hostB,h]
   have b:(x.1==1)=true:=by simpa using h
   exact zH
 · have HD:Hid (hostB x=(x.1==5)):=by show hostB x=_;rw[Bool.eq_iff_iff];simp[hostB,h]
   have b:(x.1==1)=false:=by simpa using h
   exact zH
theorem qA3 (v:Nat):∀(w:World),v<B64→
 Calls Tryz.prog 26 #[.int .u64 (v:Nat)] w fun e w'=>∃u,e= .returned u∧w'.ownsRow w.heap.size 5 1 u (vb v).length (Bs (vb v))∧Below w.heap.size w w':=by
 induction v using Nat.strongRecOn with
 |_ v ih=>
  intro w hv
  by_cases hlt:v<128
  · have h1:decide ((v:Int)<128)=true:=by simp;omega
    clear ih
    go_enter Tryz.func26,Tryz.ntmps26
    go_wp2
    go_ret;refine⟨_,rfl,?_,(qAk _ w).alloc (qAi _) _⟩;rw[qCM v hlt];exact qDg w _ v rfl
  · have h1:decide ((v:Int)<128)=false:=by simp;omega
    have IH:=qAg (fun w'=>ih (v / 128) (by omega) w' (by omega));have HV:=qAg hv;clear ih hv
    go_enter Tryz.func26,Tryz.ntmps26
    go_wp2_with fail
    have e1:IntKind.u64.wrap ((v:Int) / 128)=((v / 128:Nat):Int):=by have:=HV.out;unfold B64 at this;rw[IntKind.wrap_u64];omega
    rw[e1];clear e1;refine(IH.out _).mono ?_;rintro e w2 ⟨u,rfl,hown,hbel⟩;obtain⟨A,c,rfl,hl,hlc,hcm,hB⟩:=qAu hown;have hlen:(vb (v / 128)).length≤10:=qBK 9 _ (by have:=HV.out;unfold B64 at this;omega);have HB:=qAg hB;have hsz:=hbel.size;have HO:=qAg (qA0 (qDg w (128+(v:Int) % 128) (v % 128+128) (by omega)) hbel (qAi _));simp at hsz;clear hown hl hB
    go_wp2_with (at_builtin
                 refine qAt _ rfl (.tmp 12) (.tmp 15) rfl w.heap.size (.slice (some ⟨w.heap.size,0,none⟩) 1 1) 1 [v % 128+128] rfl HO.out A _ c (vb (v / 128)) rfl rfl _ HB.out (by omega) (by omega) ?_;intro v1 w1 hown1 hg1 _)
    go_ret;refine⟨v1,rfl,?_,?_⟩
    · rw[qEu v hlt]
      have e:(vb (v / 128)).length+1=1+(vb (v / 128)).length:=by omega
      rw[List.length_cons,e];exact hown1
    · refine(((qAk _ w).alloc (qAi _) _).trans (hbel.mono (by simp))).grown hg1 (by omega) (fun k hk=> ?_)
      simp[Value.ownBlock] at hk
      omega
theorem qIz (k n r:Int) (w:World):Calls Tryz.prog 28 #[.agg #[.int .i64 k,.int .i64 n],.int .i64 r] w fun e w'=>e= .returned (.bool (goodB k n r))∧Below w.heap.size w w':=by
 by_cases h1:k=1
 · subst h1
   exact q8
 by_cases h2:k=2
 · subst h2
   exact q8
 by_cases h3:k=3
 · subst h3
   exact q8
 by_cases h7:k=7
 · subst h7
   exact q8
 by_cases h4:k=4
 · subst h4
   by_cases hn:0≤n
   · have e:goodB 4 n r=decide (n<r):=by simp[goodB,hn]
     rw[e];clear e;exact q8
   · have e:goodB 4 n r=false:=by simp[goodB,hn]
     rw[e];clear e;exact q8
 by_cases h5:k=5
 · subst h5
   by_cases hn:0≤n
   · have e:goodB 5 n r=decide (n<4):=by simp[goodB,hn]
     rw[e];clear e;exact q8
   · have e:goodB 5 n r=false:=by simp[goodB,hn]
     rw[e];clear e;exact q8
 have e:goodB k n r=false:=by simp[goodB,h1,h2,h3,h7,h4,h5]
 rw[e];clear e
 go_enter Tryz.func28,Tryz.ntmps28
 go_wp2_with fail
 go_ret;exact⟨rfl,(qAk _ _).alloc (qAi _) _⟩
theorem rtype (k n:Int) (w:World) (hk: -9223372036854775808≤k∧k≤9223372036854775807) (hn: -9223372036854775808≤n∧n≤9223372036854775807):
 Calls Tryz.prog 29 #[.agg #[.int .i64 k,.int .i64 n]] w fun e w'=>∃u,e= .returned u∧w'.ownsRow w.heap.size 5 1 u (typB k n).length (Bs (typB k n))∧Below w.heap.size w w':=by
 have hl:(vb k.toNat).length+(vb n.toNat).length≤140737488355328:=by
  have:=qCs k n hk.2 hn.2;simp[typB] at this
  omega
 have hk64:k.toNat<B64:=by unfold B64;omega
 have hn64:n.toNat<B64:=by unfold B64;omega
 unfold typB
 by_cases h1:k<0
 · rw[show k.toNat=0 by omega] at hl hk64⊢
   by_cases h2:n<0
   · rw[show n.toNat=0 by omega] at hl hn64⊢
     go_enter Tryz.func29,Tryz.ntmps29
     go_wp2_with fail
     refine qAs fun W hW=> ?_;refine qAe ?_;intro c0 c1;refine jM ?_;intro HB0;clear hW
     go_quiet (fail)
     generalize hW1:World.drewN W _=W1;refine ja ?_;intro HB0';clear hW1 c0 c1 HB0
     go_wp2_with (first
      |(at_builtin
        refine qAt _ rfl (.tmp 15) (.tmp 18) rfl W1.heap.size u1 (vb 0).length (vb 0) rfl HO1.out A2 (vb 0).length c2 (vb 0) rfl rfl _ HY2.out hl HS2.out ?_;intro v3 w3 hown3 hg3 _;refine jm ?_;intro HO3 HB3;clear hown3 hg3)
      |(go_at_call 26
        have hp:=HP1.out;clear hp;refine(qA3 0 _ qr).mono ?_;rintro e w2 ⟨u2,rfl,hown2,hb2⟩;obtain⟨A2,c2,rfl,-,-,-,hY2⟩:=qAu hown2;refine jI ?_;intro HY2 HB2 HO1 HS2;clear hown2 hY2 hb2)
      |(go_at_call 26
        refine(qA3 0 _ qr).mono ?_;rintro e w1 ⟨u1,rfl,hown1,hb1⟩;refine qAY ?_;intro HP1 HB1;clear hown1 hb1))
     exact qm
   · obtain⟨b,rfl⟩:∃b:Nat,n=(b:Int):=⟨n.toNat,by omega⟩
     rw[Int.toNat_natCast] at hl hn64⊢
     go_enter Tryz.func29,Tryz.ntmps29
     go_wp2_with fail
     refine qAs fun W hW=> ?_;have c0:W.cell? ⟨w.heap.size,0,none⟩=some (.int .i64 k):=by rw[hW];simp[go_sem]
     have c1:W.cell? ⟨w.heap.size,1,none⟩=some (.int .i64 (b:Int)):=by rw[hW];simp[go_sem]
     refine jM ?_;intro HB0;clear hW
     go_quiet (fail)
     generalize hW1:World.drewN W _=W1;refine ja ?_;intro HB0';clear hW1 c0 c1 HB0
     go_wp2_with (first
      |(at_builtin
        refine qAt _ rfl (.tmp 15) (.tmp 18) rfl W1.heap.size u1 (vb 0).length (vb 0) rfl HO1.out A2 (vb b).length c2 (vb b) rfl rfl _ HY2.out hl HS2.out ?_;intro v3 w3 hown3 hg3 _;refine jm ?_;intro HO3 HB3;clear hown3 hg3)
      |(go_at_call 26
        have hp:=HP1.out;clear hp;refine(qA3 b _ hn64).mono ?_;rintro e w2 ⟨u2,rfl,hown2,hb2⟩;obtain⟨A2,c2,rfl,-,-,-,hY2⟩:=qAu hown2;refine jI ?_;intro HY2 HB2 HO1 HS2;clear hown2 hY2 hb2)
      |(go_at_call 26
        refine(qA3 0 _ qr).mono ?_;rintro e w1 ⟨u1,rfl,hown1,hb1⟩;refine qAY ?_;intro HP1 HB1;clear hown1 hb1))
     exact qm
 · obtain⟨a,rfl⟩:∃a:Nat,k=(a:Int):=⟨k.toNat,by omega⟩
   rw[Int.toNat_natCast] at hl hk64⊢
   by_cases h2:n<0
   · rw[show n.toNat=0 by omega] at hl hn64⊢
     go_enter Tryz.func29,Tryz.ntmps29
     go_wp2_with fail
     refine qAs fun W hW=> ?_;have c0:W.cell? ⟨w.heap.size,0,none⟩=some (.int .i64 (a:Int)):=by rw[hW];simp[go_sem]
     have c1:W.cell? ⟨w.heap.size,1,none⟩=some (.int .i64 n):=by rw[hW];simp[go_sem]
     refine jM ?_;intro HB0;clear hW
     go_quiet (fail)
     generalize hW1:World.drewN W _=W1;refine ja ?_;intro HB0';clear hW1 c0 c1 HB0
     go_wp2_with (first
      |(at_builtin
        refine qAt _ rfl (.tmp 15) (.tmp 18) rfl W1.heap.size u1 (vb a).length (vb a) rfl HO1.out A2 (vb 0).length c2 (vb 0) rfl rfl _ HY2.out hl HS2.out ?_;intro v3 w3 hown3 hg3 _;refine jm ?_;intro HO3 HB3;clear hown3 hg3)
      |(go_at_call 26
        have hp:=HP1.out;clear hp;refine(qA3 0 _ qr).mono ?_;rintro e w2 ⟨u2,rfl,hown2,hb2⟩;obtain⟨A2,c2,rfl,-,-,-,hY2⟩:=qAu hown2;refine jI ?_;intro HY2 HB2 HO1 HS2;clear hown2 hY2 hb2)
      |(go_at_call 26
        refine(qA3 a _ hk64).mono ?_;rintro e w1 ⟨u1,rfl,hown1,hb1⟩;refine qAY ?_;intro HP1 HB1;clear hown1 hb1))
     exact qm
   · obtain⟨b,rfl⟩:∃b:Nat,n=(b:Int):=⟨n.toNat,by omega⟩
     rw[Int.toNat_natCast] at hl hn64⊢
     go_enter Tryz.func29,Tryz.ntmps29
     go_wp2_with fail
     refine qAs fun W hW=> ?_;have c0:W.cell? ⟨w.heap.size,0,none⟩=some (.int .i64 (a:Int)):=by rw[hW];simp[go_sem]
     have c1:W.cell? ⟨w.heap.size,1,none⟩=some (.int .i64 (b:Int)):=by rw[hW];simp[go_sem]
     refine jM ?_;intro HB0;clear hW
     go_quiet (fail)
     generalize hW1:World.drewN W _=W1;refine ja ?_;intro HB0';clear hW1 c0 c1 HB0
     go_wp2_with (first
      |(at_builtin
        refine qAt _ rfl (.tmp 15) (.tmp 18) rfl W1.heap.size u1 (vb a).length (vb a) rfl HO1.out A2 (vb b).length c2 (vb b) rfl rfl _ HY2.out hl HS2.out ?_;intro v3 w3 hown3 hg3 _;refine jm ?_;intro HO3 HB3;clear hown3 hg3)
      |(go_at_call 26
        have hp:=HP1.out;clear hp;refine(qA3 b _ hn64).mono ?_;rintro e w2 ⟨u2,rfl,hown2,hb2⟩;obtain⟨A2,c2,rfl,-,-,-,hY2⟩:=qAu hown2;refine jI ?_;intro HY2 HB2 HO1 HS2;clear hown2 hY2 hb2)
      |(go_at_call 26
        refine(qA3 a _ hk64).mono ?_;rintro e w1 ⟨u1,rfl,hown1,hb1⟩;refine qAY ?_;intro HP1 HB1;clear hown1 hb1))
     exact qm
def Typs (ts:List Typ) (r mo:Int) (w:World) (e:Ending) (w':World):Prop:=
 Below w.heap.size w w'∧((ts.all (goodT r)=true∧∃u,e= .returned (.tuple #[u,.bool (decide ((ts.length:Int)≤mo))])∧w'.ownsRow w.heap.size 5 1 u (lB tB ts).length (Bs (lB tB ts)))∨
  (ts.all (goodT r)=false∧e= .returned (.tuple #[.slice none 0 0,.bool false])))
theorem qGX (A:Option Addr) (n c:Nat) (xs:List Typ) (r mo:Int) (w:World) (hl:xs.length=n) (h:Sq typL (·<w.heap.size) w A xs) (hn2:n≤3000) (hr:r≤8):
 Calls Tryz.prog 27 #[.slice A n c,.int .i64 r,.int .i64 mo] w (Typs xs r mo w):=by
 refine jw ?_;intro HL HS;have HR8:=qAg hr;clear hl h hr;have hn3:n<B64:=by unfold B64;omega
 have hvn:(vb n).length≤10:=qBK 9 n qK;have HW:Hid (IntKind.u64.wrap (n:Int)=(n:Int)):=by show IntKind.u64.wrap (n:Int)=_;rw[IntKind.wrap_u64];omega
 have hw:=HW.out
 go_enter Tryz.func27,Tryz.ntmps27
 go_wp2_with fail
 refine(qA3 n w hn3).mono ?_;rintro e w1 ⟨u1,rfl,hown1,hb1⟩;refine qAA ?_;intro HO1 HB1;clear hown1 hb1 hw
 go_wp2_with fail
 go_loopw [8,9] (fun s i wr=>∃k:Nat,k≤n∧i= .int .i64 (k:Nat)∧(xs.take k).all (goodT r)=true∧(∃q,q=vb n++((xs.take k).map tB).flatten∧q.length≤10+k*4∧wr.ownsRow w.heap.size 5 1 s q.length (Bs q))∧Below w.heap.size w wr) (fun _ i _=>n-(intOf i).toNat)
 case atStart=>
  exact⟨0,qAq _,rfl,by simp,⟨_,rfl,by simpa using hvn,by simpa using HO1.out⟩,HB1.out⟩
 case round=>
  obtain⟨k,hk,rfl,hall,⟨q,hq,hq2,hown⟩,hbel⟩:=hrel;have HA:=qAg hall;refine jZ ?_;intro HO HB HQ hs;clear hown hbel hq hall
  by_cases hlt:k<n
  · refine jD ?_;intro x hx
    have HX:=qAg hx;obtain⟨a,cs,rfl,hab,hc,hr⟩:=HS.out.at hx;have HF:=qAg (qBJ tB xs k x hx);obtain⟨rfl,i1,i2⟩:=hr;refine jS ?_;intro c0 c1;have HC0:Hid (∀w1,Below w.heap.size w w1→w1.cell? (a.add (k*2))=some (.int .i64 x.1)∧w1.cell? ⟨(a.add (k*2)).block,(a.add (k*2)).off+1,none⟩=some (.int .i64 x.2)):=fun w1 hb=>
     ⟨(hb.cell (p:=a.add (k*2)) qB).trans (hc 0 _ rfl),by rw[←qAm a (k*2) 1 (by omega)];exact(hb.cell (p:=a.add (k*2+1)) qB).trans (hc 1 _ rfl)⟩
    rw[qAm a (k*2) 1 (by omega)] at c1;clear hc hx
    go_wp2_with fail
    refine qBg fun W hW=> ?_;have HBW:Hid (Below w.heap.size w W):=by show Below _ _ _;rw[hW];first|exact HB.out|exact HB.out.alloc hs _
    have HOW:Hid (W.ownsRow w.heap.size 5 1 u8 q.length (Bs q)):=by show World.ownsRow _ _ _ _ _ _ _;rw[hW];first|exact HO.out|exact HO.out.alloc _
    have hsW:=HBW.out.size;clear hW;refine(qIz x.1 x.2 r W).mono ?_;rintro e w2 ⟨rfl,hb2⟩;have HB2:=qAg (HBW.out.trans (hb2.mono hsW));have HO2:=qAg (qA0 HOW.out hb2 (qAi _));have hs2:=HB2.out.size;have hg:goodT r x=goodB x.1 x.2 r:=rfl;clear hb2 c0 c1
    cases hgd:goodB x.1 x.2 r
    · have HG:Hid (goodT r x=false):=hgd
      clear hg
      go_wp2_with fail
      go_ret2;refine⟨HB2.out,.inr ⟨?_,rfl⟩⟩;rw[List.all_eq_false];exact⟨x,qAl HX.out,by rw[HG.out];simp⟩
    · have HG:Hid (goodT r x=true):=hgd
      have ht4:=qCi HR8.out HG.out;obtain⟨c0,c1⟩:=HC0.out w2 HB2.out;clear hg hgd
      go_wp2_with fail
      refine qBg fun W3 hW3=> ?_;have HB3:Hid (Below w.heap.size w W3):=by show Below _ _ _;rw[hW3];first|exact HB2.out|exact HB2.out.alloc hs2 _
      have HO3:Hid (W3.ownsRow w.heap.size 5 1 u8 q.length (Bs q)):=by show World.ownsRow _ _ _ _ _ _ _;rw[hW3];first|exact HO2.out|exact HO2.out.alloc _
      have hs3:=HB3.out.size;clear hW3 c0 c1;refine(rtype x.1 x.2 W3 i1 i2).mono ?_;rintro e w4 ⟨u4,rfl,hown4,hb4⟩;obtain⟨A4,c4,rfl,-,-,-,hB4⟩:=qAu hown4;have HY4:=qAg hB4;have HB4:=qAg (HB3.out.trans (hb4.mono hs3));have HO4:=qAg (qA0 HO3.out hb4 (qAi _));have hs4:=HB4.out.size;have ht5:(typB x.1 x.2).length≤4:=ht4;clear hown4 hB4 hb4;obtain⟨y,hy⟩:∃y,typB x.1 x.2=y:=⟨_,rfl⟩;have HYE:Hid (tB x=y):=hy;rw[hy] at ht5 HY4⊢;clear hy ht4
      go_wp2_with (at_builtin
                   refine qAt _ rfl (.tmp 27) (.tmp 32) rfl w.heap.size u8 q.length q rfl HO4.out A4 y.length c4 y rfl rfl _ HY4.out (by omega) (by omega) ?_;intro v5 w5 hown5 hg5 _;have HO5:=qAg hown5;have HB5:=qAg (HB4.out.grown hg5 (by omega) (fun i hi=>(HO4.out.lt i hi).1));clear hown5 hg5)
      refine⟨⟨k+1,by omega,by simp,qEO HA.out HX.out HG.out,⟨q++y,?_,?_,?_⟩,HB5.out⟩,by simp[intOf];omega⟩
      · rw[HF.out,HQ.out,HYE.out]
        simp[List.append_assoc]
      · simp[List.length_append]
        omega
      · rw[List.length_append]
        exact HO5.out
  · obtain rfl:k=n:=by omega
    have e:lB tB xs=q:=by
     rw[HQ.out,qAn qO,lB,HL.out]
    have ea:=HA.out;rw[qAn qO] at ea;have HE:=qAg e;have HEA:=qAg ea;clear e ea
    go_wp2_with fail
    go_ret2;refine⟨HB.out,.inl ⟨HEA.out,u8,?_,?_⟩⟩
    · rw[HL.out]
      rfl
    · rw[HE.out]
      exact HO.out
def ones:List Int:=[0,1,3,4,23,24,25,27,28]
theorem qJr (op:Int) (k:Nat) (hk:k<9) (h:ones[k]?.getD 0=op):argN op=1:=by
 subst h;unfold argN ones;have:k=0∨k=1∨k=2∨k=3∨k=4∨k=5∨k=6∨k=7∨k=8:=by omega
 rcases this with rfl|rfl|rfl|rfl|rfl|rfl|rfl|rfl|rfl<;>rfl
theorem qIS (op:Int) (h0:¬op<0) (h1:op<42) (h2:op≠29) (h3:op≠30) (h:∀j,j<9→ones[j]?.getD 0≠op):argN op=0:=by
 have a0:=h 0 (by omega);have a1:=h 1 (by omega);have a2:=h 2 (by omega);have a3:=h 3 (by omega);have a4:=h 4 (by omega);have a5:=h 5 (by omega);have a6:=h 6 (by omega);have a7:=h 7 (by omega);have a8:=h 8 (by omega);simp[ones] at a0 a1 a2 a3 a4 a5 a6 a7 a8;unfold argN;rw[if_neg (by omega),if_neg (by omega),if_neg (by omega)]
theorem qB0 (op:Int) (w:World):Calls Tryz.prog 47 #[.int .i64 op] w fun e w'=>e= .returned (.int .i64 (argN op))∧Below w.heap.size w w':=by
 by_cases hlo:op<0
 · have e:argN op= -1:=by unfold argN;rw[if_neg (by omega),if_neg (by omega),if_pos (by omega)]
   rw[e];clear e;exact zB
 by_cases hhi:42≤op
 · have e:argN op= -1:=by unfold argN;rw[if_neg (by omega),if_neg (by omega),if_pos (by omega)]
   rw[e];clear e;exact zB
 by_cases h29:op=29
 · subst h29
   exact zB
 by_cases h30:op=30
 · subst h30
   exact zB
 have e29:(op==29)=false:=by simp[h29]
 have e30:(op==30)=false:=by simp[h30]
 go_enter Tryz.func47,Tryz.ntmps47
 go_wp2_with fail
 refine qAs fun W hW=> ?_;have hcell:Hid (∀k,k<9→W.cell? ⟨w.heap.size,k,none⟩=some (.int .i64 (ones[k]?.getD 0))):=by
  intro k hk;rw[hW];have:k=0∨k=1∨k=2∨k=3∨k=4∨k=5∨k=6∨k=7∨k=8:=by omega
  rcases this with rfl|rfl|rfl|rfl|rfl|rfl|rfl|rfl|rfl<;>simp[go_sem,ones]
 have HB:Hid (Below w.heap.size w W):=by
  show Below w.heap.size w W
  rw[hW];exact(qAk _ _).alloc (qAi _) _
 clear hW
 go_loop [4] (fun i=>∃k:Nat,k≤9∧i= .int .i64 (k:Nat)∧∀j,j<k→ones[j]?.getD 0≠op) (fun i=>9-(intOf i).toNat)
 case atStart=>exact⟨0,by omega,rfl,fun j hj=>absurd hj (by omega)⟩
 case round=>
  obtain⟨k,hk,rfl,hall⟩:=hrel;have HA:=qAg hall;clear hall
  by_cases hlt:k<9
  · have hc:=hcell.out k hlt
    obtain⟨z,hz⟩:∃z,ones[k]?.getD 0=z:=⟨_,rfl⟩;rw[hz] at hc;have HZ:=qAg hz;clear hz
    by_cases he:z=op
    · subst he
      go_wp2_with fail
      go_ret;exact⟨qE0 (qJr z k hlt HZ.out).symm,HB.out⟩
    · have he2:(z==op)=false:=by simp[he]
      go_wp2_with fail
      refine⟨⟨k+1,by omega,by simp,fun j hj=> ?_⟩,by simp[intOf];omega⟩;rcases Nat.lt_or_ge j k with h|h
      · exact HA.out j h
      · obtain rfl:j=k:=by omega
        rw[HZ.out];exact he
  · obtain rfl:k=9:=by omega
    go_wp2_with fail
    go_ret;exact⟨qE0 (qIS op (by omega) (by omega) h29 h30 HA.out).symm,HB.out⟩
end Go.Proofs.YtelceoecekfamaaGreat
