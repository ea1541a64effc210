/-
Fif
-/
import Derived.Test.YtelceoecekfamaaGreatQ02
set_option linter.unusedSimpArgs false
set_option linter.unusedVariables false
set_option maxRecDepth 100000
set_option maxHeartbeats 4000000
namespace Go.Proofs.YtelceoecekfamaaGreat
open Go.RowKit
theorem zT {P:Prop} (h:P:=by simp[go_sem]):P:=h
theorem qE8 (b g t r:Nat) (x:Imp) (w:World) (he:Env b g t r w) (cs:List Value) (hr:impL.R (·<w.heap.size) w cs x):
 Calls Tryz.prog 81 #[vAgg cs,.pointer (some ⟨t,0,none⟩),.pointer (some ⟨g,0,none⟩)] w (Tells (impOk r x) w):=by
 obtain⟨p0,rfl,i1,i2,⟨A4,d4,e4,l4,m4,s4⟩⟩:=hr;simp only[List.cons.injEq,and_true] at e4;subst e4
 show Calls Tryz.prog 81 #[.agg #[.slice A4 x.args.length d4,.int .i64 x.ret.1,.int .i64 x.ret.2],.pointer (some ⟨t,0,none⟩),.pointer (some ⟨g,0,none⟩)] w (Tells (impOk r x) w)
 obtain⟨n,hn⟩:∃n,x.args.length=n:=⟨_,rfl⟩;have hn2:n≤9223372036854775807:=by unfold maxLen at m4;omega
 have T0:Hid (∀w1,Below w.heap.size w w1→Calls Tryz.prog 75 #[.slice A4 n d4,.int .i64 4,.pointer (some ⟨g,0,none⟩)] w1 (Tells (witB 0 4 (goodT r) x.args) w1)):=fun w1 hb=>
  qCX b g A4 n d4 x.args 4 r w1 (he.below hb).recs (he.below hb).good hn ((s4.keep fun b hb1=>hb.block b hb1).wide fun b hb1=>qAh hb1 hb.size) hn2 (by omega)
 have T1:Hid (∀w1,Below w.heap.size w w1→Calls Tryz.prog 73 #[.agg #[.int .i64 x.ret.1,.int .i64 x.ret.2],.pointer (some ⟨b,0,none⟩)] w1 (Tells (goodT r x.ret) w1)):=fun w1 hb=>
  qEB b x.ret r w1 (he.below hb).recs _ ⟨rfl,i1,i2⟩
 have hO:impOk r x=(witB 0 4 (goodT r) x.args && goodT r x.ret):=rfl;rw[hO,hn];have HE:=qAg he;have ht:=he.types;have hlt:=qAr w _ ht;have hglt:=qAr w _ he.good;simp only at hlt hglt;clear hO hn l4 m4 s4 i1 i2 he;generalize witB 0 4 (goodT r) x.args=b1 at*;generalize goodT r x.ret=b2 at*;generalize x.ret.1=k1 at*;generalize x.ret.2=k2 at*;have X:∀W,Below w.heap.size w W→w.heap.size<W.heap.size→W.cell? ⟨w.heap.size,0,none⟩=some (.slice A4 n d4)→W.cell? ⟨w.heap.size,1,none⟩=some (.int .i64 k1)→W.cell? ⟨w.heap.size,2,none⟩=some (.int .i64 k2)→
  ∀w1,Below W.heap.size W w1→w1.cell? ⟨w.heap.size,0,none⟩=some (.slice A4 n d4)∧w1.cell? ⟨w.heap.size,1,none⟩=some (.int .i64 k1)∧w1.cell? ⟨w.heap.size,2,none⟩=some (.int .i64 k2)∧w1.cell? ⟨g,0,none⟩=some (.func (.func 73) #[] #[.pointer (some ⟨b,0,none⟩)]):=
  fun W hb hs c0 c1 c2 w1 h1=>⟨(h1.cell (p:=⟨w.heap.size,0,none⟩) hs).trans c0,(h1.cell (p:=⟨w.heap.size,1,none⟩) hs).trans c1,(h1.cell (p:=⟨w.heap.size,2,none⟩) hs).trans c2,(HE.out.below (hb.trans (h1.mono hb.size))).good⟩
 have HB0:Hid (Below w.heap.size w (w.alloc (.cells #[.slice A4 n d4,.int .i64 k1,.int .i64 k2] 56))):=(qAk _ _).alloc (qAi _) _;have HX1:=qAg (X _ HB0.out (by simp) zT zT zT);clear X
 cases b1
 all_goals
  go_enter Tryz.func81,Tryz.ntmps81
  go_wp2_with (first
   |(go_at_call 75
     refine(T0.out _ HB0.out).mono ?_;rintro e w1 ⟨rfl,hb1⟩;have HB1:=qAg (HB0.out.trans (hb1.mono HB0.out.size));obtain⟨y0,y1,y2,y3⟩:=HX1.out w1 hb1;clear hb1)
   |(go_at_call 73
     refine(T1.out _ HB1.out).mono ?_;rintro e w2 ⟨rfl,hb2⟩;refine jX ?_;intro HB2;clear hb2))
  go_ret
 · exact⟨rfl,HB1.out⟩
 · exact⟨by simp,HB2.out⟩
theorem qFA (b g t r:Nat) (x:Fn) (w:World) (he:Env b g t r w) (cs:List Value) (hr:fnL.R (·<w.heap.size) w cs x):
 Calls Tryz.prog 78 #[vAgg cs,.pointer (some ⟨t,0,none⟩),.pointer (some ⟨g,0,none⟩)] w (Tells (fnOk r x) w):=by
 obtain⟨p0,p1,p2,rfl,i1,i2,⟨A4,d4,e4,l4,m4,s4⟩,⟨A5,d5,e5,l5,m5,s5⟩,⟨A6,d6,e6,l6,m6,s6⟩⟩:=hr;simp only[List.cons.injEq,and_true] at e4 e5 e6;subst e4 e5 e6
 show Calls Tryz.prog 78 #[.agg #[.slice A4 x.args.length d4,.int .i64 x.ret.1,.int .i64 x.ret.2,.slice A5 x.locs.length d5,.slice A6 x.code.length d6],.pointer (some ⟨t,0,none⟩),.pointer (some ⟨g,0,none⟩)] w (Tells (fnOk r x) w)
 obtain⟨n,hn⟩:∃n,x.args.length=n:=⟨_,rfl⟩;obtain⟨m,hm⟩:∃m,x.locs.length=m:=⟨_,rfl⟩;obtain⟨o,ho⟩:∃o,x.code.length=o:=⟨_,rfl⟩;have hn2:n≤9223372036854775807:=by unfold maxLen at m4;omega
 have hm2:m≤9223372036854775807:=by unfold maxLen at m5;omega
 have ho2:o≤9223372036854775807:=by unfold maxLen at m6;omega
 have T0:Hid (∀w1,Below w.heap.size w w1→Calls Tryz.prog 75 #[.slice A4 n d4,.int .i64 4,.pointer (some ⟨g,0,none⟩)] w1 (Tells (witB 0 4 (goodT r) x.args) w1)):=fun w1 hb=>
  qCX b g A4 n d4 x.args 4 r w1 (he.below hb).recs (he.below hb).good hn ((s4.keep fun b hb1=>hb.block b hb1).wide fun b hb1=>qAh hb1 hb.size) hn2 (by omega)
 have T1:Hid (∀w1,Below w.heap.size w w1→Calls Tryz.prog 73 #[.agg #[.int .i64 x.ret.1,.int .i64 x.ret.2],.pointer (some ⟨b,0,none⟩)] w1 (Tells (goodT r x.ret) w1)):=fun w1 hb=>
  qEB b x.ret r w1 (he.below hb).recs _ ⟨rfl,i1,i2⟩
 have T2:Hid (∀w1,Below w.heap.size w w1→Calls Tryz.prog 75 #[.slice A5 m d5,.int .i64 (8-(n:Int)),.pointer (some ⟨g,0,none⟩)] w1 (Tells (witB 0 (8-(n:Int)) (goodT r) x.locs) w1)):=fun w1 hb=>
  qCX b g A5 m d5 x.locs (8-(n:Int)) r w1 (he.below hb).recs (he.below hb).good hm ((s5.keep fun b hb1=>hb.block b hb1).wide fun b hb1=>qAh hb1 hb.size) hm2 (by omega)
 have T3:Hid (∀w1,Below w.heap.size w w1→Calls Tryz.prog 79 #[.slice A6 o d6,.int .i64 1,.int .i64 64,.func (.func 80) #[] #[]] w1 (Tells (witB 1 64 goodIn x.code) w1)):=fun w1 hb=>
  qGH A6 o d6 x.code 1 64 goodIn w1 ho ((s6.keep fun b hb1=>hb.block b hb1).wide fun b hb1=>qAh hb1 hb.size) ho2 (by omega) (by omega) fun w2 cs x _ _ hr=>qF3 x w2 cs hr
 have hO:fnOk r x=(witB 0 4 (goodT r) x.args && goodT r x.ret && witB 0 (8-(n:Int)) (goodT r) x.locs && witB 1 64 goodIn x.code):=by rw[←hn];rfl
 rw[hO,hn,hm,ho];have HE:=qAg he;have ht:=he.types;have hlt:=qAr w _ ht;have hglt:=qAr w _ he.good;simp only at hlt hglt;clear hO hn hm ho l4 m4 s4 l5 m5 s5 l6 m6 s6 i1 i2 he;generalize witB 0 4 (goodT r) x.args=b1 at*;generalize goodT r x.ret=b2 at*;generalize witB 0 (8-(n:Int)) (goodT r) x.locs=b3 at*;generalize witB 1 64 goodIn x.code=b4 at*;generalize x.ret.1=k1 at*;generalize x.ret.2=k2 at*;have hw:IntKind.i64.wrap (8-(n:Int))=8-(n:Int):=IntWalk.i64_in _ (by omega);have HX:Hid (∀W,Below w.heap.size w W→w.heap.size<W.heap.size→C5 w.heap.size (.slice A4 n d4) (.int .i64 k1) (.int .i64 k2) (.slice A5 m d5) (.slice A6 o d6) W→∀w1,Below W.heap.size W w1→
  C5 w.heap.size (.slice A4 n d4) (.int .i64 k1) (.int .i64 k2) (.slice A5 m d5) (.slice A6 o d6) w1∧Env b g t r w1∧Below w.heap.size w w1∧w.heap.size<w1.heap.size):=
  fun W hb hs hC w1 h1=>⟨hC.below h1 hs,HE.out.below (hb.trans (h1.mono hb.size)),hb.trans (h1.mono hb.size),qAh hs h1.size⟩
 have HB0:Hid (Below w.heap.size w (w.alloc (.cells #[.slice A4 n d4,.int .i64 k1,.int .i64 k2,.slice A5 m d5,.slice A6 o d6] 44))):=(qAk _ _).alloc (qAi _) _;have HX1:=qAg (HX.out _ HB0.out (by simp) (by simp[C5,go_sem]));rcases b1 with _|_
 case' true=>rcases b2 with _|_
 case' true.true=>rcases b3 with _|_
 all_goals
  go_enter Tryz.func78,Tryz.ntmps78
  go_wp2_with (first
   |(go_at_call 79
     refine(T3.out _ HB3.out).mono ?_;rintro e w4 ⟨rfl,hb4⟩;refine qAQ ?_;intro HB4;clear hb4)
   |(go_at_call 75
     (with_reducible refine(T2.out _ ?_).mono ?_)
     · exact HB2.out
     rintro e w3 ⟨rfl,hb3⟩;obtain⟨hC3,hE3,hB3,hs3⟩:=HX3.out w3 hb3;have HB3:=qAg hB3;obtain⟨s0,s1,s2,s3,s4⟩:=hC3;clear hb3 hB3 hE3)
   |(go_at_call 73
     refine(T1.out _ HB1.out).mono ?_;rintro e w2 ⟨rfl,hb2⟩;obtain⟨hC2,hE2,hB2,hs2⟩:=HX2.out w2 hb2;have HX3:=qAg (HX.out w2 hB2 hs2 hC2);have HB2:=qAg hB2;obtain⟨r0,r1,r2,r3,r4⟩:=hC2;have e3:=hE2.types;clear hb2 hB2 hE2)
   |(go_at_call 75
     (with_reducible refine(T0.out _ ?_).mono ?_)
     · exact HB0.out
     rintro e w1 ⟨rfl,hb1⟩;obtain⟨hC1,hE1,hB1,hs1⟩:=HX1.out w1 hb1;have HX2:=qAg (HX.out w1 hB1 hs1 hC1);have HB1:=qAg hB1;obtain⟨y0,y1,y2,y3,y4⟩:=hC1;have e2:=hE1.good;clear hb1 hB1 hE1))
  go_ret
 all_goals first|exact⟨by simp,HB4.out⟩|exact⟨rfl,HB3.out⟩|exact⟨rfl,HB2.out⟩|exact⟨rfl,HB1.out⟩
end Go.Proofs.YtelceoecekfamaaGreat
