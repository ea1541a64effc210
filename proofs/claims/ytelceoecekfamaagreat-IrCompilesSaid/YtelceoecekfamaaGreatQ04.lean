/-
Wirec Wifn Wiimp Wistr Fit Pltyp Pw Plins Rws Cat
-/
import Derived.Test.YtelceoecekfamaaGreatQ01
import Derived.Test.YtelceoecekfamaaGreatQ02
import Derived.Test.YtelceoecekfamaaGreatQ03
import Derived.Laws.EntriesVeiled
import Derived.Deep.RegionHeld3
import Derived.Lib.AppendZeros
set_option linter.unusedSimpArgs false
set_option linter.unusedVariables false
set_option maxRecDepth 100000
set_option maxHeartbeats 4000000
namespace Go.Proofs.YtelceoecekfamaaGreat
open Go.RowKit
variable {A:Option Addr}{S:Nat→Prop}{w:World}{xss:List (List Nat)}
theorem qGG (A:Option Addr) (n c:Nat) (xs:List (List Typ)) (lo hi:Int) (g:(List Typ)→Bool) (p7:Addr) (w:World) (hl:xs.length=n) (h:Sq tysL (·<w.heap.size) w A xs) (hn2:n≤9223372036854775807) (hlo: -1000≤lo∧lo≤1000) (hhi: -9223372036854775808≤hi∧hi≤1000)
 (hG:∀(w1:World) (cs:List Value) (x:(List Typ)),Below w.heap.size w w1→x∈xs→tysL.R (·<w1.heap.size) w1 cs x→Calls Tryz.prog 77 #[vOne cs,.pointer (some p7)] w1 (Tells (g x) w1)):
 Calls Tryz.prog 82 #[.slice A n c,.int .i64 lo,.int .i64 hi,.func (.func 77) #[] #[.pointer (some p7)]] w (Tells (witB lo hi g xs) w):=by
 refine jH ?_;intro HL HS HP0 HW;clear hl h hG;refine qAb ?_;intro wb hwb;rw[hwb] at HW⊢;clear hwb
 by_cases h1:(n:Int)<lo
 · refine qAC ?_;intro e
   rw[e];clear HW e
   go_enter Tryz.func82,Tryz.ntmps82
   exact qY
 by_cases h2:hi<(n:Int)
 · refine qAC ?_;intro e
   rw[e];clear HW e
   go_enter Tryz.func82,Tryz.ntmps82
   exact qY
 replace HW:Hid (wb=xs.all g):=by
  show wb=xs.all g
  rw[HW.out];simp
  omega
 go_enter Tryz.func82,Tryz.ntmps82
 go_wp2_with fail
 go_loopw [23] (fun i wr=>∃k:Nat,k≤n∧i= .int .i64 (k:Nat)∧(xs.take k).all g=true∧Below w.heap.size w wr) (fun i _=>n-(intOf i).toNat)
 case atStart=>exact⟨0,qAq _,rfl,by simp,qAk _ _⟩
 case round=>
  obtain⟨k,hk,rfl,hall,hbel⟩:=hrel;have HA:=qAg hall;refine jc ?_;intro HB hs;clear hall hbel
  by_cases hlt:k<n
  · skip
    refine z7 ?_;intro x hx hmem;obtain⟨a,cs,rfl,hab,hc,hr⟩:=HS.out.at hx;have HX:=qAg hx;clear hx;have HR:=qAg hr;obtain⟨A2,d2,rfl,-,-,-⟩:=hr;have c0:=(HB.out.cell (p:=a.add k) qB).trans (qBI (K:=tysL.k) rfl (hc 0 _ rfl));have HP:Hid (∀w1,Below w.heap.size w w1→Calls Tryz.prog 77 #[.slice A2 x.length d2,.pointer (some p7)] w1 (Tells (g x) w1)):=fun w1 hb=>HP0.out w1 [.slice A2 x.length d2] x hb hmem (tysL.wide (tysL.keep HR.out fun b hb1=>hb.block b hb1) fun b hb1=>qAh hb1 hb.size);clear hc
    cases hg:g x
    · rw[hg] at HP
      refine jb ?_;intro e E;clear e hg
      go_wp2_with (first
       |(go_at_call 77
         refine(HP.out _ (HB.out)).mono ?_;rintro e w2 ⟨rfl,hb2⟩;refine qAV ?_;intro Hb2;clear hb2))
      exact zF
    · rw[hg] at HP
      have HG:=qAg hg;clear hg
      go_wp2_with (first
       |(go_at_call 77
         refine(HP.out _ (HB.out)).mono ?_;rintro e w2 ⟨rfl,hb2⟩;refine qAV ?_;intro Hb2;clear hb2))
      exact qf
  · exact qN
theorem qHc (A:Option Addr) (n c:Nat) (xs:List Fn) (lo hi:Int) (g:Fn→Bool) (p7:Addr) (p8:Addr) (w:World) (hl:xs.length=n) (h:Sq fnL (·<w.heap.size) w A xs) (hn2:n≤9223372036854775807) (hlo: -1000≤lo∧lo≤1000) (hhi: -9223372036854775808≤hi∧hi≤1000)
 (hG:∀(w1:World) (cs:List Value) (x:Fn),Below w.heap.size w w1→x∈xs→fnL.R (·<w1.heap.size) w1 cs x→Calls Tryz.prog 78 #[vAgg cs,.pointer (some p7),.pointer (some p8)] w1 (Tells (g x) w1)):
 Calls Tryz.prog 83 #[.slice A n c,.int .i64 lo,.int .i64 hi,.func (.func 78) #[] #[.pointer (some p7),.pointer (some p8)]] w (Tells (witB lo hi g xs) w):=by
 refine jH ?_;intro HL HS HP0 HW;clear hl h hG;refine qAb ?_;intro wb hwb;rw[hwb] at HW⊢;clear hwb
 by_cases h1:(n:Int)<lo
 · refine qAC ?_;intro e
   rw[e];clear HW e
   go_enter Tryz.func83,Tryz.ntmps83
   exact qY
 by_cases h2:hi<(n:Int)
 · refine qAC ?_;intro e
   rw[e];clear HW e
   go_enter Tryz.func83,Tryz.ntmps83
   exact qY
 replace HW:Hid (wb=xs.all g):=by
  show wb=xs.all g
  rw[HW.out];simp
  omega
 go_enter Tryz.func83,Tryz.ntmps83
 go_wp2_with fail
 go_loopw [23] (fun i wr=>∃k:Nat,k≤n∧i= .int .i64 (k:Nat)∧(xs.take k).all g=true∧Below w.heap.size w wr) (fun i _=>n-(intOf i).toNat)
 case atStart=>exact⟨0,qAq _,rfl,by simp,qAk _ _⟩
 case round=>
  obtain⟨k,hk,rfl,hall,hbel⟩:=hrel;have HA:=qAg hall;refine jc ?_;intro HB hs;clear hall hbel
  by_cases hlt:k<n
  · skip
    refine z7 ?_;intro x hx hmem;obtain⟨a,cs,rfl,hab,hc,hr⟩:=HS.out.at hx;have HX:=qAg hx;clear hx;have HR:=qAg hr;obtain⟨p0,p1,p2,rfl,-,-,⟨A4,d4,e4,-⟩,⟨A5,d5,e5,-⟩,⟨A6,d6,e6,-⟩⟩:=hr;simp only[List.cons.injEq,and_true] at e4 e5 e6;subst e4 e5 e6;refine qAJ ?_;intro c0 c1;rw[qAm a (k*5) 1 (by omega)] at c1;have c2:=(HB.out.cell (p:=a.add (k*5+2)) qB).trans (hc 2 _ rfl);rw[qAm a (k*5) 2 (by omega)] at c2;have c3:=(HB.out.cell (p:=a.add (k*5+3)) qB).trans (hc 3 _ rfl);rw[qAm a (k*5) 3 (by omega)] at c3;have c4:=(HB.out.cell (p:=a.add (k*5+4)) qB).trans (hc 4 _ rfl);rw[qAm a (k*5) 4 (by omega)] at c4;have HP:Hid (∀w1,Below w.heap.size w w1→Calls Tryz.prog 78 #[.agg #[.slice A4 x.args.length d4,.int .i64 x.ret.1,.int .i64 x.ret.2,.slice A5 x.locs.length d5,.slice A6 x.code.length d6],.pointer (some p7),.pointer (some p8)] w1 (Tells (g x) w1)):=fun w1 hb=>HP0.out w1 [.slice A4 x.args.length d4,.int .i64 x.ret.1,.int .i64 x.ret.2,.slice A5 x.locs.length d5,.slice A6 x.code.length d6] x hb hmem (fnL.wide (fnL.keep HR.out fun b hb1=>hb.block b hb1) fun b hb1=>qAh hb1 hb.size);clear hc
    cases hg:g x
    · rw[hg] at HP
      refine jb ?_;intro e E;clear e hg
      go_wp2_with (first
       |(go_at_call 78
         refine(HP.out _ (HB.out.alloc hs _)).mono ?_;rintro e w2 ⟨rfl,hb2⟩;refine jg ?_;intro Hb2;clear hb2))
      exact zF
    · rw[hg] at HP
      have HG:=qAg hg;clear hg
      go_wp2_with (first
       |(go_at_call 78
         refine(HP.out _ (HB.out.alloc hs _)).mono ?_;rintro e w2 ⟨rfl,hb2⟩;refine jg ?_;intro Hb2;clear hb2))
      exact qf
  · exact qN
theorem qGI (A:Option Addr) (n c:Nat) (xs:List Imp) (lo hi:Int) (g:Imp→Bool) (p7:Addr) (p8:Addr) (w:World) (hl:xs.length=n) (h:Sq impL (·<w.heap.size) w A xs) (hn2:n≤9223372036854775807) (hlo: -1000≤lo∧lo≤1000) (hhi: -9223372036854775808≤hi∧hi≤1000)
 (hG:∀(w1:World) (cs:List Value) (x:Imp),Below w.heap.size w w1→x∈xs→impL.R (·<w1.heap.size) w1 cs x→Calls Tryz.prog 81 #[vAgg cs,.pointer (some p7),.pointer (some p8)] w1 (Tells (g x) w1)):
 Calls Tryz.prog 84 #[.slice A n c,.int .i64 lo,.int .i64 hi,.func (.func 81) #[] #[.pointer (some p7),.pointer (some p8)]] w (Tells (witB lo hi g xs) w):=by
 refine jH ?_;intro HL HS HP0 HW;clear hl h hG;refine qAb ?_;intro wb hwb;rw[hwb] at HW⊢;clear hwb
 by_cases h1:(n:Int)<lo
 · refine qAC ?_;intro e
   rw[e];clear HW e
   go_enter Tryz.func84,Tryz.ntmps84
   exact qY
 by_cases h2:hi<(n:Int)
 · refine qAC ?_;intro e
   rw[e];clear HW e
   go_enter Tryz.func84,Tryz.ntmps84
   exact qY
 replace HW:Hid (wb=xs.all g):=by
  show wb=xs.all g
  rw[HW.out];simp
  omega
 go_enter Tryz.func84,Tryz.ntmps84
 go_wp2_with fail
 go_loopw [23] (fun i wr=>∃k:Nat,k≤n∧i= .int .i64 (k:Nat)∧(xs.take k).all g=true∧Below w.heap.size w wr) (fun i _=>n-(intOf i).toNat)
 case atStart=>exact⟨0,qAq _,rfl,by simp,qAk _ _⟩
 case round=>
  obtain⟨k,hk,rfl,hall,hbel⟩:=hrel;have HA:=qAg hall;refine jc ?_;intro HB hs;clear hall hbel
  by_cases hlt:k<n
  · skip
    refine z7 ?_;intro x hx hmem;obtain⟨a,cs,rfl,hab,hc,hr⟩:=HS.out.at hx;have HX:=qAg hx;clear hx;have HR:=qAg hr;obtain⟨p0,rfl,-,-,⟨A4,d4,e4,-⟩⟩:=hr;simp only[List.cons.injEq,and_true] at e4;subst e4;refine jT ?_;intro c0 c1;rw[qAm a (k*3) 1 (by omega)] at c1;refine qAI ?_;intro c2;rw[qAm a (k*3) 2 (by omega)] at c2;have HP:Hid (∀w1,Below w.heap.size w w1→Calls Tryz.prog 81 #[.agg #[.slice A4 x.args.length d4,.int .i64 x.ret.1,.int .i64 x.ret.2],.pointer (some p7),.pointer (some p8)] w1 (Tells (g x) w1)):=fun w1 hb=>HP0.out w1 [.slice A4 x.args.length d4,.int .i64 x.ret.1,.int .i64 x.ret.2] x hb hmem (impL.wide (impL.keep HR.out fun b hb1=>hb.block b hb1) fun b hb1=>qAh hb1 hb.size);clear hc
    cases hg:g x
    · rw[hg] at HP
      refine jb ?_;intro e E;clear e hg
      go_wp2_with (first
       |(go_at_call 81
         refine(HP.out _ (HB.out.alloc hs _)).mono ?_;rintro e w2 ⟨rfl,hb2⟩;refine jg ?_;intro Hb2;clear hb2))
      exact zF
    · rw[hg] at HP
      have HG:=qAg hg;clear hg
      go_wp2_with (first
       |(go_at_call 81
         refine(HP.out _ (HB.out.alloc hs _)).mono ?_;rintro e w2 ⟨rfl,hb2⟩;refine jg ?_;intro Hb2;clear hb2))
      exact qf
  · exact qN
theorem qGF (A:Option Addr) (n c:Nat) (xs:List (List Nat)) (lo hi:Int) (g:(List Nat)→Bool) (w:World) (hl:xs.length=n) (h:Sq strL (·<w.heap.size) w A xs) (hn2:n≤9223372036854775807) (hlo: -1000≤lo∧lo≤1000) (hhi: -9223372036854775808≤hi∧hi≤1000)
 (hG:∀(w1:World) (cs:List Value) (x:(List Nat)),Below w.heap.size w w1→x∈xs→strL.R (·<w1.heap.size) w1 cs x→Calls Tryz.prog 86 #[vOne cs] w1 (Tells (g x) w1)):
 Calls Tryz.prog 85 #[.slice A n c,.int .i64 lo,.int .i64 hi,.func (.func 86) #[] #[]] w (Tells (witB lo hi g xs) w):=by
 refine jH ?_;intro HL HS HP0 HW;clear hl h hG;refine qAb ?_;intro wb hwb;rw[hwb] at HW⊢;clear hwb
 by_cases h1:(n:Int)<lo
 · refine qAC ?_;intro e
   rw[e];clear HW e
   go_enter Tryz.func85,Tryz.ntmps85
   exact qY
 by_cases h2:hi<(n:Int)
 · refine qAC ?_;intro e
   rw[e];clear HW e
   go_enter Tryz.func85,Tryz.ntmps85
   exact qY
 replace HW:Hid (wb=xs.all g):=by
  show wb=xs.all g
  rw[HW.out];simp
  omega
 go_enter Tryz.func85,Tryz.ntmps85
 go_wp2_with fail
 go_loopw [23] (fun i wr=>∃k:Nat,k≤n∧i= .int .i64 (k:Nat)∧(xs.take k).all g=true∧Below w.heap.size w wr) (fun i _=>n-(intOf i).toNat)
 case atStart=>exact⟨0,qAq _,rfl,by simp,qAk _ _⟩
 case round=>
  obtain⟨k,hk,rfl,hall,hbel⟩:=hrel;have HA:=qAg hall;refine jc ?_;intro HB hs;clear hall hbel
  by_cases hlt:k<n
  · skip
    refine z7 ?_;intro x hx hmem;obtain⟨a,cs,rfl,hab,hc,hr⟩:=HS.out.at hx;have HX:=qAg hx;clear hx;have HR:=qAg hr;obtain⟨s0,rfl,-⟩:=hr;have c0:=(HB.out.cell (p:=a.add k) qB).trans (qBI (K:=strL.k) rfl (hc 0 _ rfl));have HP:Hid (∀w1,Below w.heap.size w w1→Calls Tryz.prog 86 #[.string s0] w1 (Tells (g x) w1)):=fun w1 hb=>HP0.out w1 [.string s0] x hb hmem (strL.wide (strL.keep HR.out fun b hb1=>hb.block b hb1) fun b hb1=>qAh hb1 hb.size);clear hc
    cases hg:g x
    · rw[hg] at HP
      refine jb ?_;intro e E;clear e hg
      go_wp2_with (first
       |(go_at_call 86
         refine(HP.out _ (HB.out)).mono ?_;rintro e w2 ⟨rfl,hb2⟩;refine qAV ?_;intro Hb2;clear hb2))
      exact zF
    · rw[hg] at HP
      have HG:=qAg hg;clear hg
      go_wp2_with (first
       |(go_at_call 86
         refine(HP.out _ (HB.out)).mono ?_;rintro e w2 ⟨rfl,hb2⟩;refine qAV ?_;intro Hb2;clear hb2))
      exact qf
  · exact qN
theorem qJd (cs:List Value) (x:Mod) (w:World) (h:modL.R (·<w.heap.size) w cs x):Calls Tryz.prog 48 #[vAgg cs] w (Tells (fitB x) w):=by
 obtain⟨_,_,_,_,_,rfl,⟨A0,d0,e0,l0,m0,s0⟩,⟨A1,d1,e1,l1,m1,s1⟩,⟨A2,d2,e2,l2,m2,s2⟩,⟨A3,d3,e3,l3,m3,s3⟩,⟨A4,d4,e4,l4,m4,s4⟩⟩:=h;simp only[List.cons.injEq,and_true] at e0 e1 e2 e3 e4;subst e0 e1 e2 e3 e4
 show Calls Tryz.prog 48 #[.agg #[.slice A0 x.recs.length d0,.slice A1 x.funcs.length d1,.slice A2 x.imps.length d2,.slice A3 x.ints.length d3,.slice A4 x.texts.length d4]] w (Tells (fitB x) w)
 refine z9 ?_;intro n0 h0 n1 h1 n2 h2;refine jx ?_;intro n3 h3 n4 h4;unfold maxLen at m0 m1 m2 m3 m4;rw[h0] at l0;rw[h1] at l1;rw[h2] at l2;rw[h3] at l3;rw[h4] at l4;have T0:Hid (∀w1 b g t,Below w.heap.size w w1→Env b g t n0 w1→Calls Tryz.prog 82 #[.slice A0 n0 d0,.int .i64 0,.int .i64 8,.func (.func 77) #[] #[.pointer (some ⟨t,0,none⟩)]] w1 (Tells (witB 0 8 (recOk n0) x.recs) w1)):=fun w1 b g t hb he=>
  qGG A0 n0 d0 x.recs 0 8 (recOk n0) ⟨t,0,none⟩ w1 h0 ((s0.keep fun b hb1=>hb.block b hb1).wide fun b hb1=>qAh hb1 hb.size) (by omega) (by omega) (by omega) fun w2 cs y hb2 _ hr=>qGe b g t n0 y w2 (he.below hb2) cs hr
 have T1:Hid (∀w1 b g t,Below w.heap.size w w1→Env b g t n0 w1→Calls Tryz.prog 83 #[.slice A1 n1 d1,.int .i64 1,.int .i64 8,.func (.func 78) #[] #[.pointer (some ⟨t,0,none⟩),.pointer (some ⟨g,0,none⟩)]] w1 (Tells (witB 1 8 (fnOk n0) x.funcs) w1)):=fun w1 b g t hb he=>
  qHc A1 n1 d1 x.funcs 1 8 (fnOk n0) ⟨t,0,none⟩ ⟨g,0,none⟩ w1 h1 ((s1.keep fun b hb1=>hb.block b hb1).wide fun b hb1=>qAh hb1 hb.size) (by omega) (by omega) (by omega) fun w2 cs y hb2 _ hr=>qFA b g t n0 y w2 (he.below hb2) cs hr
 have T2:Hid (∀w1 b g t,Below w.heap.size w w1→Env b g t n0 w1→Calls Tryz.prog 84 #[.slice A2 n2 d2,.int .i64 0,.int .i64 8,.func (.func 81) #[] #[.pointer (some ⟨t,0,none⟩),.pointer (some ⟨g,0,none⟩)]] w1 (Tells (witB 0 8 (impOk n0) x.imps) w1)):=fun w1 b g t hb he=>
  qGI A2 n2 d2 x.imps 0 8 (impOk n0) ⟨t,0,none⟩ ⟨g,0,none⟩ w1 h2 ((s2.keep fun b hb1=>hb.block b hb1).wide fun b hb1=>qAh hb1 hb.size) (by omega) (by omega) (by omega) fun w2 cs y hb2 _ hr=>qE8 b g t n0 y w2 (he.below hb2) cs hr
 have T4:Hid (∀w1,Below w.heap.size w w1→Calls Tryz.prog 85 #[.slice A4 n4 d4,.int .i64 0,.int .i64 16,.func (.func 86) #[] #[]] w1 (Tells (witB 0 16 shortB x.texts) w1)):=fun w1 hb=>
  qGF A4 n4 d4 x.texts 0 16 shortB w1 h4 ((s4.keep fun b hb1=>hb.block b hb1).wide fun b hb1=>qAh hb1 hb.size) (by omega) (by omega) (by omega) fun w2 cs y _ _ hr=>qEU y w2 cs hr
 have hO:fitB x=(witB 0 8 (recOk n0) x.recs && witB 1 8 (fnOk n0) x.funcs && witB 0 8 (impOk n0) x.imps && decide (n3≤16) && witB 0 16 shortB x.texts):=by rw[←h0,←h3];rfl
 rw[hO,h0,h1,h2,h3,h4];clear hO h0 h1 h2 h3 h4 s0 s1 s2 s3 s4;generalize witB 0 8 (recOk n0) x.recs=b1 at*;generalize witB 1 8 (fnOk n0) x.funcs=b2 at*;generalize witB 0 8 (impOk n0) x.imps=b3 at*;generalize witB 0 16 shortB x.texts=b5 at*;obtain⟨N,hN⟩:∃N,w.heap.size=N:=⟨_,rfl⟩;have HB0:Hid (Below w.heap.size w (((w.alloc (.cells #[.slice A0 n0 d0,.slice A1 n1 d1,.slice A2 n2 d2,.slice A3 n3 d3,.slice A4 n4 d4] 28)).alloc (.cells #[.func (.func 73) #[] #[.pointer (some ⟨w.heap.size,0,none⟩)]] 66)).alloc (.cells #[.func (.func 75) #[] #[.pointer (some ⟨w.heap.size+1,0,none⟩)]] 129))):=
  (((qAk _ _).alloc (qAi _) _).alloc (by simp) _).alloc qK _
 have HE0:Hid (Env w.heap.size (w.heap.size+1) (w.heap.size+2) n0 (((w.alloc (.cells #[.slice A0 n0 d0,.slice A1 n1 d1,.slice A2 n2 d2,.slice A3 n3 d3,.slice A4 n4 d4] 28)).alloc (.cells #[.func (.func 73) #[] #[.pointer (some ⟨w.heap.size,0,none⟩)]] 66)).alloc (.cells #[.func (.func 75) #[] #[.pointer (some ⟨w.heap.size+1,0,none⟩)]] 129))):=
  ⟨⟨A0,d0,by simp[go_sem]⟩,by simp[go_sem],by simp[go_sem]⟩
 have HX:Hid (∀W,Below w.heap.size w W→w.heap.size+2<W.heap.size→Env w.heap.size (w.heap.size+1) (w.heap.size+2) n0 W→C5 w.heap.size (.slice A0 n0 d0) (.slice A1 n1 d1) (.slice A2 n2 d2) (.slice A3 n3 d3) (.slice A4 n4 d4) W→∀w1,Below W.heap.size W w1→
  C5 w.heap.size (.slice A0 n0 d0) (.slice A1 n1 d1) (.slice A2 n2 d2) (.slice A3 n3 d3) (.slice A4 n4 d4) w1∧Env w.heap.size (w.heap.size+1) (w.heap.size+2) n0 w1∧Below w.heap.size w w1∧w.heap.size+2<w1.heap.size):=
  fun W hb hs hE hC w1 h1=>⟨hC.below h1 (by omega),hE.below h1,hb.trans (h1.mono hb.size),qAh hs h1.size⟩
 have HX1:=qAg (HX.out _ HB0.out (by simp) HE0.out (by simp[C5,go_sem]));clear hN;have hdec:∀b:Bool,b=decide (n3≤16)→(b=true→(n3:Int)≤16)∧(b=false→¬(n3:Int)≤16):=by
  intro b hb;subst hb;simp
  omega
 obtain⟨b4,hb4⟩:∃b,b=decide (n3≤16):=⟨_,rfl⟩;rw[←hb4];obtain⟨q1,q2⟩:=hdec b4 hb4;have Q1:=qAg q1;have Q2:=qAg q2;clear hdec hb4 q1 q2;rcases b1 with _|_
 case' true=>rcases b2 with _|_
 case' true.true=>rcases b3 with _|_
 case' true.true.true=>rcases b4 with _|_
 case' true.true.true.false=>have h16:=Q2.out rfl
 case' true.true.true.true=>have h16:=Q1.out rfl
 all_goals
  go_enter Tryz.func48,Tryz.ntmps48
  go_wp2_with (first
   |(go_at_call 85
     refine(T4.out _ HB3.out).mono ?_;rintro e w4 ⟨rfl,hb4⟩;refine qAQ ?_;intro HB4;clear hb4)
   |(go_at_call 84
     refine(T2.out _ w.heap.size _ _ HB2.out HE2.out).mono ?_;rintro e w3 ⟨rfl,hb3⟩;obtain⟨hC3,hE3,hB3,hs3⟩:=HX3.out w3 hb3;have HB3:=qAg hB3;obtain⟨y20,y21,y22,y23,y24⟩:=hC3;clear hb3 hB3 hE3)
   |(go_at_call 83
     refine(T1.out _ w.heap.size _ _ HB1.out HE1.out).mono ?_;rintro e w2 ⟨rfl,hb2⟩;obtain⟨hC2,hE2,hB2,hs2⟩:=HX2.out w2 hb2;have HX3:=qAg (HX.out w2 hB2 hs2 hE2 hC2);have HB2:=qAg hB2;have HE2:=qAg hE2;obtain⟨y10,y11,y12,y13,y14⟩:=hC2;clear hb2 hB2 hE2)
   |(go_at_call 82
     refine(T0.out _ w.heap.size (w.heap.size+1) _ HB0.out HE0.out).mono ?_;rintro e w1 ⟨rfl,hb1⟩;obtain⟨hC1,hE1,hB1,hs1⟩:=HX1.out w1 hb1;have HX2:=qAg (HX.out w1 hB1 hs1 hE1 hC1);have HB1:=qAg hB1;have HE1:=qAg hE1;obtain⟨y0,y1,y2,y3,y4⟩:=hC1;clear hb1 hB1 hE1))
  go_ret
 all_goals first|exact⟨by simp,HB4.out⟩|exact⟨by simp,HB3.out⟩|exact⟨rfl,HB2.out⟩|exact⟨rfl,HB1.out⟩
theorem qFc (A:Option Addr) (n c:Nat) (xs:List Typ) (w:World) (hl:xs.length=n) (h:Sq typL (·<w.heap.size) w A xs) (hn2:n≤1000000) (hn:(lB tB xs).length≤1000000)
 (hP:∀(w1:World) (cs:List Value) (x:Typ),x∈xs→typL.R (·<w1.heap.size) w1 cs x→Calls Tryz.prog 89 #[vAgg cs] w1 (Puts (tB x) w1)):
 Calls Tryz.prog 88 #[.slice A n c,.func (.func 89) #[] #[]] w (Puts (lB tB xs) w):=by
 refine jq ?_;intro HN HL HS HP0;clear hl h hn hP;have hn3:n<B64:=by unfold B64;omega
 go_enter Tryz.func88,Tryz.ntmps88
 go_wp2_with fail
 refine(qBN n w hn3).mono ?_;rintro e w1 ⟨u1,rfl,hown1,hb1⟩;refine qAA ?_;intro HO1 HB1;clear hown1 hb1
 go_wp2_with fail
 go_loopw [5,14] (fun s i wr=>∃k:Nat,k≤n∧i= .int .i64 (k:Nat)∧(∃q,q=vb n++((xs.take k).map tB).flatten∧q.length≤1000000∧wr.ownsRow w.heap.size 5 1 s q.length (Bs q))∧Below w.heap.size w wr) (fun _ i _=>n-(intOf i).toNat)
 case atStart=>
  exact qM
 case round=>
  obtain⟨k,hk,rfl,⟨q,hq,hq2,hown⟩,hbel⟩:=hrel;refine jZ ?_;intro HO HB HQ hs;clear hown hbel hq
  by_cases hlt:k<n
  · skip
    refine z7 ?_;intro x hx hmem;obtain⟨a,cs,rfl,hab,hc,hr⟩:=HS.out.at hx;have HF:=qAg (qBJ tB xs k x hx);have hle2:=qBd tB xs (k+1);rw[HF.out,List.length_append] at hle2;have hq3:q.length+(tB x).length≤1000000:=by
     have:=HN.out;simp only[lB,List.length_append,HL.out] at this;rw[HQ.out,List.length_append]
     omega
    clear hle2 hx;have HR:=qAg hr;obtain⟨rfl,-,-⟩:=hr;refine jS ?_;intro c0 c1;rw[qAm a (k*2) 1 (by omega)] at c1;have HP:Hid (∀w1,Below w.heap.size w w1→Calls Tryz.prog 89 #[.agg #[.int .i64 x.1,.int .i64 x.2]] w1 (Puts (tB x) w1)):=fun w1 hb=>HP0.out w1 [.int .i64 x.1,.int .i64 x.2] x hmem (typL.wide (typL.keep HR.out fun b hb1=>hb.block b hb1) fun b hb1=>qAh hb1 hb.size);clear hc;obtain⟨y,hy⟩:∃y,tB x=y:=⟨_,rfl⟩;rw[hy] at hq3 HP;have HY:=qAg hy;clear hy
    go_wp2_with (first
     |(go_at_call 89
       refine(HP.out _ (HB.out.alloc hs _)).mono ?_;rintro e w2 ⟨u2,rfl,hown2,hb2⟩;obtain⟨A3,c3,rfl,-,-,-,hB2⟩:=qAu hown2;refine jf ?_;intro HB2 HO2 Hb2 hs2;clear hown2 hB2 hb2)
     |(at_builtin
       refine qAt _ rfl (.tmp 18) (.tmp 21) rfl w.heap.size u5 q.length q rfl HO2.out A3 y.length c3 y rfl rfl _ HB2.out (by omega) (by omega) ?_;intro v4 w4 hown4 hg4 _;refine qAf ?_;intro HO4 HG4;clear hown4 hg4))
    exact qF
  · obtain rfl:k=n:=by omega
    go_wp2_with fail
    go_ret;refine⟨_,rfl,?_,HB.out⟩;have e:lB tB xs=q:=by
     rw[HQ.out,qAn qO,lB,HL.out]
    rw[e];exact HO.out
theorem put_typ (ts:List Typ) (w1:World) (cs:List Value) (x:Typ) (_:x∈ts) (hr:typL.R (·<w1.heap.size) w1 cs x):Calls Tryz.prog 89 #[vAgg cs] w1 (Puts (tB x) w1):=by
 obtain⟨rfl,h1,h2⟩:=hr;exact kput x.1 x.2 w1 h1 h2
theorem put_ins (ts:List Ins) (w1:World) (cs:List Value) (x:Ins) (_:x∈ts) (hr:insL.R (·<w1.heap.size) w1 cs x):Calls Tryz.prog 92 #[vAgg cs] w1 (Puts (iB x) w1):=by
 obtain⟨rfl,h1,h2⟩:=hr;exact qFz x.1 x.2.1 x.2.2 w1
theorem qBo (A:Option Addr) (n c:Nat) (ts:List Typ) (w:World) (hl:ts.length=n) (h:Sq typL (·<w.heap.size) w A ts) (hn2:n≤1000000) (hn:(lB tB ts).length≤1000000):
 Calls Tryz.prog 51 #[.slice A n c] w (Puts (lB tB ts) w):=by
 have HC:=qAg (qFc A n c ts w hl h hn2 hn (put_typ ts));clear hl h hn
 go_enter Tryz.func51,Tryz.ntmps51
 go_wp2_with (first|(go_at_call 88;refine HC.out.mono ?_;rintro e w1 ⟨u,rfl,hown,hb⟩))
 go_ret;exact⟨_,rfl,hown,hb⟩
theorem qFb (v:Nat) (w:World) (hv:v<B64):Calls Tryz.prog 57 #[.int .u64 (v:Int)] w (Puts (numB v) w):=by
 have HC:=qAg (qCe v 8 w hv);have e8:wid 8=8:=by decide
 rw[e8] at HC;clear e8 hv
 go_enter Tryz.func57,Tryz.ntmps57
 go_wp2_with (first|(go_at_call 93;refine HC.out.mono ?_;rintro e w1 ⟨u,rfl,hown,hb⟩))
 go_ret;refine⟨_,rfl,?_,hb⟩;rw[numB,qB9];exact hown
theorem qHr (s:ByteArray) (w:World) (hs:(strB s).length≤1000000):Calls Tryz.prog 59 #[.string s] w (Puts (pt (strB s)) w):=by
 obtain⟨n,hn⟩:∃n,(strB s).length=n:=⟨_,rfl⟩;have hz:s.size=n:=by rw[←qBj];exact hn
 have h64:n<B64:=by unfold B64;omega
 have hv:=qBK 9 n qK;have HC:=qAg (qBN n w h64);have HN:=qAg hn;have hbig:(vb n).length+(strB s).length≤140737488355328:=by omega
 have HZ:=qAg hbig;rw[hn] at hs;clear hbig hn
 go_enter Tryz.func59,Tryz.ntmps59
 go_wp2_with (first
  |(go_at_call 87
    refine HC.out.mono ?_;rintro e w1 ⟨u,rfl,hown,hb⟩;have HO:=qAg hown;have HB:=qAg hb;clear hown hb)
  |(at_builtin
    refine qDa _ rfl (.tmp 6) (.tmp 7) rfl w.heap.size u (vb n).length (vb n) rfl HO.out s rfl HZ.out HB.out.size ?_;intro v4 w4 hown4 hg4;have HO4:=qAg hown4;have HB4:=qAg (HB.out.grown hg4 HB.out.size (fun i hi=>(HO.out.lt i hi).1));clear hown4 hg4))
 go_ret;refine⟨_,rfl,?_,HB4.out⟩;rw[pt,List.length_append,HN.out];have:=HO4.out;rw[HN.out] at this;exact this
theorem qEW (cs:List Value) (x:Imp) (r:Int) (w:World) (hr:r≤8) (hx:impOk r x=true) (h:impL.R (·<w.heap.size) w cs x):Calls Tryz.prog 55 #[vAgg cs] w (Puts (impB x) w):=by
 obtain⟨a1,a2,a3⟩:=qDH hx;have hB1:=qBy hr (by omega) a2;have hB2:=qCi hr a3;clear a2 a3 hx hr;obtain⟨p0,rfl,i1,i2,⟨A4,d4,e4,l4,m4,s4⟩⟩:=h;simp only[List.cons.injEq,and_true] at e4;subst e4
 show Calls Tryz.prog 55 #[.agg #[.slice A4 x.args.length d4,.int .i64 x.ret.1,.int .i64 x.ret.2]] w (Puts (impB x) w)
 obtain⟨n,hn⟩:∃n,x.args.length=n:=⟨_,rfl⟩;obtain⟨ys,hys⟩:∃ys,lB tB x.args=ys:=⟨_,rfl⟩;obtain⟨zs,hzs⟩:∃zs,tB x.ret=zs:=⟨_,rfl⟩;have PK:Hid (∀w1,Below w.heap.size w w1→Calls Tryz.prog 51 #[.slice A4 n d4] w1 (Puts ys w1)):=fun w1 hb=>by
  rw[←hys];exact qBo A4 n d4 x.args w1 hn ((s4.keep fun b hb1=>hb.block b hb1).wide fun b hb1=>qAh hb1 hb.size) (by omega) (by omega)
 have PN:Hid (∀w1,Calls Tryz.prog 89 #[.agg #[.int .i64 x.ret.1,.int .i64 x.ret.2]] w1 (Puts zs w1)):=fun w1=>by
  rw[←hzs];exact kput x.ret.1 x.ret.2 w1 i1 i2
 have HI:Hid (impB x=ys++zs):=by show impB x=ys++zs;rw[←hys,←hzs];rfl
 rw[hn] at*;rw[hys] at hB1;rw[hzs] at hB2;clear hys hzs hn s4 l4 m4 i1 i2;obtain⟨b,hb⟩:∃b,impB x=b:=⟨_,rfl⟩;rw[hb] at HI⊢;clear hb;generalize x.ret.1=k1 at*;generalize x.ret.2=k2 at*;have hl:ys.length+zs.length≤140737488355328:=by omega
 go_enter Tryz.func55,Tryz.ntmps55
 go_wp2_with fail
 refine qAs fun W hW=> ?_;have c0:W.cell? ⟨w.heap.size,0,none⟩=some (.slice A4 n d4):=by rw[hW];simp[go_sem]
 have c1:W.cell? ⟨w.heap.size,1,none⟩=some (.int .i64 k1):=by rw[hW];simp[go_sem]
 have c2:W.cell? ⟨w.heap.size,2,none⟩=some (.int .i64 k2):=by rw[hW];simp[go_sem]
 refine jM ?_;intro HB0;have hs:w.heap.size<W.heap.size:=by rw[hW];simp
 clear hW;have C1:=qAg c1;have C2:=qAg c2
 go_region_law (first
  |(with_reducible refine qBV (.tmp 5) (.tmp 8) 62 ?_
    refine qBC _ rfl (.tmp 5) (.tmp 8) rfl W.heap.size u1 ys.length ys rfl HO1.out A2 zs.length c2' zs rfl rfl _ HY2.out hl HS2.out ?_;intro v3 w3 hown3 hg3 _;refine jm ?_;intro HO3 HB3;clear hown3 hg3)
  |(with_reducible refine qB5 51 ?_
    go_simp
    go_at_call 51
    refine(PK.out _ HB0.out.drew).mono ?_;rintro e w1 ⟨u1,rfl,hown1,hb1⟩;have HP1:=qAg hown1;have HB1:=qAg (hb1.mono (qAi W.heap.size));have hcell1:w1.cell? ⟨w.heap.size,1,none⟩=some (.int .i64 k1):=(hb1.cell (p:=⟨w.heap.size,1,none⟩) hs).trans C1.out;have hcell2:w1.cell? ⟨w.heap.size,2,none⟩=some (.int .i64 k2):=(hb1.cell (p:=⟨w.heap.size,2,none⟩) hs).trans C2.out;clear hown1 hb1)
  |(with_reducible refine qB5 89 ?_
    go_simp
    go_at_call 89
    refine(PN.out _).mono ?_;rintro e w2 ⟨u2,rfl,hown2,hb2⟩;obtain⟨A2,c2',rfl,-,-,-,hY2⟩:=qAu hown2;refine jI ?_;intro HY2 HB2 HO1 HS2;clear hown2 hY2 hb2))
 all_goals
  go_wp2_with fail
  go_ret;refine⟨_,rfl,?_,HB0.out.drew.trans (HB3.out.mono HB0.out.size)⟩;rw[HI.out,List.length_append];exact qBQ HO3.out HB0.out.size
theorem qFg (A:Option Addr) (n c:Nat) (xs:List Ins) (w:World) (hl:xs.length=n) (h:Sq insL (·<w.heap.size) w A xs) (hn2:n≤1000000) (hn:(lB iB xs).length≤1000000)
 (hP:∀(w1:World) (cs:List Value) (x:Ins),x∈xs→insL.R (·<w1.heap.size) w1 cs x→Calls Tryz.prog 92 #[vAgg cs] w1 (Puts (iB x) w1)):
 Calls Tryz.prog 91 #[.slice A n c,.func (.func 92) #[] #[]] w (Puts (lB iB xs) w):=by
 refine jq ?_;intro HN HL HS HP0;clear hl h hn hP;have hn3:n<B64:=by unfold B64;omega
 go_enter Tryz.func91,Tryz.ntmps91
 go_wp2_with fail
 refine(qBN n w hn3).mono ?_;rintro e w1 ⟨u1,rfl,hown1,hb1⟩;refine qAA ?_;intro HO1 HB1;clear hown1 hb1
 go_wp2_with fail
 go_loopw [5,14] (fun s i wr=>∃k:Nat,k≤n∧i= .int .i64 (k:Nat)∧(∃q,q=vb n++((xs.take k).map iB).flatten∧q.length≤1000000∧wr.ownsRow w.heap.size 5 1 s q.length (Bs q))∧Below w.heap.size w wr) (fun _ i _=>n-(intOf i).toNat)
 case atStart=>
  exact qM
 case round=>
  obtain⟨k,hk,rfl,⟨q,hq,hq2,hown⟩,hbel⟩:=hrel;refine jZ ?_;intro HO HB HQ hs;clear hown hbel hq
  by_cases hlt:k<n
  · skip
    refine z7 ?_;intro x hx hmem;obtain⟨a,cs,rfl,hab,hc,hr⟩:=HS.out.at hx;have HF:=qAg (qBJ iB xs k x hx);have hle2:=qBd iB xs (k+1);rw[HF.out,List.length_append] at hle2;have hq3:q.length+(iB x).length≤1000000:=by
     have:=HN.out;simp only[lB,List.length_append,HL.out] at this;rw[HQ.out,List.length_append]
     omega
    clear hle2 hx;have HR:=qAg hr;obtain⟨rfl,-,-,-⟩:=hr;refine jT ?_;intro c0 c1;rw[qAm a (k*3) 1 (by omega)] at c1;refine qAI ?_;intro c2;rw[qAm a (k*3) 2 (by omega)] at c2;have HP:Hid (∀w1,Below w.heap.size w w1→Calls Tryz.prog 92 #[.agg #[.int .i64 x.1,.int .i64 x.2.1,.int .i64 x.2.2]] w1 (Puts (iB x) w1)):=fun w1 hb=>HP0.out w1 [.int .i64 x.1,.int .i64 x.2.1,.int .i64 x.2.2] x hmem (insL.wide (insL.keep HR.out fun b hb1=>hb.block b hb1) fun b hb1=>qAh hb1 hb.size);clear hc;obtain⟨y,hy⟩:∃y,iB x=y:=⟨_,rfl⟩;rw[hy] at hq3 HP;have HY:=qAg hy;clear hy
    go_wp2_with (first
     |(go_at_call 92
       refine(HP.out _ (HB.out.alloc hs _)).mono ?_;rintro e w2 ⟨u2,rfl,hown2,hb2⟩;obtain⟨A3,c3,rfl,-,-,-,hB2⟩:=qAu hown2;refine jf ?_;intro HB2 HO2 Hb2 hs2;clear hown2 hB2 hb2)
     |(at_builtin
       refine qAt _ rfl (.tmp 18) (.tmp 21) rfl w.heap.size u5 q.length q rfl HO2.out A3 y.length c3 y rfl rfl _ HB2.out (by omega) (by omega) ?_;intro v4 w4 hown4 hg4 _;refine qAf ?_;intro HO4 HG4;clear hown4 hg4))
    exact qF
  · obtain rfl:k=n:=by omega
    go_wp2_with fail
    go_ret;refine⟨_,rfl,?_,HB.out⟩;have e:lB iB xs=q:=by
     rw[HQ.out,qAn qO,lB,HL.out]
    rw[e];exact HO.out
def Rws (S:Nat→Prop) (w:World) (A:Option Addr) (xss:List (List Nat)):Prop:=
 0<xss.length→∃a,A=some a∧S a.block∧∀j,j<xss.length→∃B c,w.cell? (a.add j)=some (.slice B (xss[j]?.getD []).length c)∧(xss[j]?.getD []).length≤c∧Byt S w B (xss[j]?.getD [])
theorem Rws.nil (S:Nat→Prop) (w:World) (A:Option Addr):Rws S w A []:=fun h=>absurd h (by simp)
theorem Rws.keep {w':World} (h:Rws S w A xss) (hk:∀b,S b→w'.heap[b]? =w.heap[b]?):Rws S w' A xss:=fun hn=>by
 obtain⟨a,e,hs,hc⟩:=h hn;refine⟨a,e,hs,fun j hj=> ?_⟩;obtain⟨B,c,h1,h2,h3⟩:=hc j hj;exact⟨B,c,(qAy (hk _ zo)).trans h1,h2,h3.keep hk⟩
theorem Rws.wide {T:Nat→Prop} (h:Rws S w A xss) (hk:∀b,S b→T b):Rws T w A xss:=fun hn=>by
 obtain⟨a,e,hs,hc⟩:=h hn;refine⟨a,e,hk _ hs,fun j hj=> ?_⟩;obtain⟨B,c,h1,h2,h3⟩:=hc j hj;exact⟨B,c,h1,h2,h3.wide hk⟩
theorem Rws.below {B B':Nat} {w':World} (h:Rws (·<B) w A xss) (hb:Below B' w w') (hB:B≤B'):Rws (·<B) w' A xss:=h.keep fun b h1=>hb.block b (qAh h1 hB)
theorem Rws.at (h:Rws S w A xss) {k:Nat} (hk:k<xss.length):
 ∃a B c,A=some a∧S a.block∧w.cell? (a.add k)=some (.slice B (xss[k]?.getD []).length c)∧(xss[k]?.getD []).length≤c∧Byt S w B (xss[k]?.getD []):=by
 obtain⟨a,e,hs,hc⟩:=h (by omega);obtain⟨B,c,h1,h2,h3⟩:=hc k hk;exact⟨a,B,c,e,hs,h1,h2,h3⟩
theorem qEo (xss:List (List Nat)) (k:Nat) (h:k<xss.length):(xss.take (k+1)).flatten=(xss.take k).flatten++(xss[k]?.getD []):=by
 rw[qAp h,List.flatten_append];simp[h]
theorem qDh (xss:List (List Nat)) (k:Nat):(xss.take k).flatten.length≤xss.flatten.length:=by
 conv=>rhs;rw[←List.take_append_drop k xss]
 rw[List.flatten_append,List.length_append]
 omega
theorem qHu (w w':World) (h:w'.heap.size=w.heap.size) (cs:Array Value) (G:Nat) (hG:G≤maxLen) (hc:cs.size=G):(w'.alloc (.cells cs 5)).ownsRow w.heap.size 5 1 (.slice (some ⟨w.heap.size,0,none⟩) 0 G) 0 (Bs []):=by
 have:=World.ownsRow_made (base:=w.heap.size) (e:=5) (size:=1) w' cs G (by omega) hG (by omega);rw[h] at this;exact this
theorem qC4 (w:World) {ops:Array Oper} {rest:List Oper} {o:Oper} {a:Act} {Q:Exit→Act→World→Prop} (hgd:o.guard=none) (s x:Operand)
 (ho:o.op= .call {callee:= .builtin .append,args:= #[s,x],argTypes:= #[62,3]})
 (n:Nat) (h0:0<n) (hn:n≤140737488355328) (hs:a.eval s= .slice none 0 0) (hx:a.eval x= .int .i64 (n:Nat))
 (h:∀G w',n≤G→G≤maxLen→w'.ownsRow w.heap.size 5 1 (.slice (some ⟨w.heap.size,0,none⟩) 0 G) 0 (Bs [])→Below w.heap.size w w'→wpList Tryz.prog ops Q rest (a.put o.dst (.slice (some ⟨w.heap.size,0,none⟩) n G)) w'):
 wpList Tryz.prog ops Q (o::rest) a w:=by
 obtain⟨i0,hi0,hz0,hz1,hz2⟩:=info_parts qCr;refine wpList_plain hgd fun _ hK=> ?_;have hrun:=Lib.run_append_nil_zeros (P:=Tryz.prog) w 62 3 o.type 5 i0 (.int .u8 0) .i64 .i64 Tryz.underlying62 Tryz.underlying3 hi0 hz0 n h0 (by omega) (by omega) (by rw[hz2];omega);have hG:=grownCap_ge w n 0 5;have hG2:=grownCap_le_maxLen w n 0 5 (by unfold maxLen;omega);generalize grownCap w n 0 5=G at hrun hG hG2;unfold Oper.wp execOp;simp only[ho,resolve,invoke,builtin,Sem.run_bind,Sem.run_pure,Result.andThen_ok,List.map_toArray,List.map_cons,List.map_nil,hs,hx,hrun];refine hK _ _ (h G _ hG hG2 (qHu w w.drew rfl _ G hG2 ?_) ((qAk _ w).drew.alloc (qAi _) _));simp[Builtin.zeroCells,Value.cells]
 omega
theorem qJX (n:Nat) (w:World) (hn:n≤140737488355328):
 Calls Tryz.prog 108 #[.slice none 0 0,.int .i64 (n:Nat)] w fun e w'=>∃v,e= .returned v∧w'.ownsRow w.heap.size 5 1 v 0 (Bs [])∧Below w.heap.size w w':=by
 rcases Nat.eq_zero_or_pos n with h|h
 · subst h
   go_enter Tryz.func108,Tryz.ntmps108
   go_wp2
   go_ret;exact⟨_,rfl,World.ownsRow_nil _ _ _ _,qAk _ _⟩
 · go_enter Tryz.func108,Tryz.ntmps108
   go_wp2_with (at_builtin
                refine qC4 _ rfl (.tmp 20) (.tmp 21) rfl n h hn rfl rfl ?_;intro G w1 hG hG2 hown hb;have hG3:G≤9223372036854775807:=by unfold maxLen at hG2;omega
                have HO:=qAg hown;clear hown hG2)
   go_ret;exact⟨_,rfl,HO.out,hb⟩
theorem qG5 (A:Option Addr) (n c:Nat) (xss:List (List Nat)) (w:World) (hl:xss.length=n) (hR:Rws (·<w.heap.size) w A xss) (hn:xss.flatten.length≤140737488355328) (hn2:n≤140737488355328):
 Calls Tryz.prog 90 #[.slice A n c] w fun e w'=>∃v,e= .returned v∧w'.ownsRow w.heap.size 5 1 v xss.flatten.length (Bs xss.flatten)∧Below w.heap.size w w':=by
 have HL:=qAg hl;have HR:=qAg hR;clear hl hR
 go_enter Tryz.func90,Tryz.ntmps90
 go_wp2_with fail
 go_loop [3,11] (fun s i=>∃k:Nat,k≤n∧i= .int .i64 (k:Nat)∧s= .int .i64 (((xss.take k).flatten.length:Nat):Int)) (fun _ i=>n-(intOf i).toNat)
 case atStart=>exact⟨0,qAq _,rfl,by simp⟩
 case round=>
  obtain⟨k,hk,rfl,rfl⟩:=hrel;have hle:=qDh xss k;obtain⟨m,hm⟩:∃m,(xss.take k).flatten.length=m:=⟨_,rfl⟩;rw[hm] at hle⊢;have HM:=qAg hm;clear hm
  by_cases hlt:k<n
  · obtain⟨a,B,c2,rfl,_,hcell,_,_⟩:=HR.out.at (k:=k) qS
    have HF:=qAg (qEo xss k qS);have hle2:=qDh xss (k+1);rw[HF.out,List.length_append,HM.out] at hle2;obtain⟨x,hx⟩:∃x,xss[k]?.getD []=x:=⟨_,rfl⟩;rw[hx] at hcell hle2;have HX:=qAg hx;clear hx
    go_wp2_with fail
    refine⟨⟨k+1,by omega,by simp,?_⟩,by simp[intOf];omega⟩;rw[HF.out,List.length_append,HM.out,HX.out];simp
  · obtain rfl:k=n:=by omega
    have HE:Hid (m=xss.flatten.length):=by
     show m=xss.flatten.length
     rw[←HM.out,qAn qO]
    go_wp2_with fail
    refine(qJX m w (by omega)).mono ?_;rintro e w1 ⟨v1,rfl,hown1,hb1⟩;refine qAA ?_;intro HO1 HB1;clear hown1 hb1
    go_wp2_with fail
    go_loopw [6,27] (fun s i wr=>∃j:Nat,j≤k∧i= .int .i64 (j:Nat)∧wr.ownsRow w.heap.size 5 1 s (xss.take j).flatten.length (Bs (xss.take j).flatten)∧Below w.heap.size w wr) (fun _ i _=>k-(intOf i).toNat)
    case atStart=>exact⟨0,qAq _,rfl,by simpa using HO1.out,HB1.out⟩
    case round=>
     obtain⟨j,hj,rfl,hown,hbel⟩:=hrel;have HO:=qAg hown;refine jc ?_;intro HB hs;clear hown hbel;have hlej:=qDh xss j
     by_cases hlt2:j<k
     · obtain⟨a,B,c2,rfl,hab,hcell,_,hBy⟩:=HR.out.at (k:=j) (by rw[HL.out];exact hlt2)
       have hcell2:=(HB.out.cell (p:=a.add j) qB).trans hcell;have HF:=qAg (qEo xss j (by rw[HL.out];exact hlt2));have hle2:=qDh xss (j+1);rw[HF.out,List.length_append] at hle2;obtain⟨x,hx⟩:∃x,xss[j]?.getD []=x:=⟨_,rfl⟩;rw[hx] at hcell hle2 hcell2 hBy;have HX:=qAg hx;have HY:=qAg hBy;clear hx hcell hBy;obtain⟨q,hq⟩:∃q,(xss.take j).flatten=q:=⟨_,rfl⟩;have HQ:=qAg hq;have HO2:Hid (wr.ownsRow w.heap.size 5 1 u6 q.length (Bs q)):=by
        show wr.ownsRow w.heap.size 5 1 u6 q.length (Bs q)
        rw[←hq];exact HO.out
       rw[hq] at hle2 hlej;clear hq HO
       go_wp2_with (at_builtin
                    refine qAt _ rfl (.tmp 31) (.tmp 32) rfl w.heap.size u6 q.length q rfl HO2.out B x.length c2 x rfl rfl (·<w.heap.size) (HY.out.below HB.out (qAi _)) (by omega) hs ?_;intro v2 w2 hown2 hg2 _;have HO3:=qAg hown2;clear hown2)
       refine⟨⟨j+1,by omega,by simp,?_,HB.out.grown hg2 hs (fun i hi=>(HO2.out.lt i hi).1)⟩,by simp[intOf];omega⟩;rw[HF.out,HQ.out,HX.out,List.length_append];exact HO3.out
     · obtain rfl:j=k:=by omega
       go_wp2_with fail
       go_ret;refine⟨_,rfl,?_,HB.out⟩;have:=HO.out;rw[qAn qO] at this;exact this
end Go.Proofs.YtelceoecekfamaaGreat
