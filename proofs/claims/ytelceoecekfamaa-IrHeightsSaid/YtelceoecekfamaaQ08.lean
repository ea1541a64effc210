/-
Fon4 Fon Ixhan Ixwrg Sc1 Ixmis Sc2 Sc3 Ixbfn Ixbim Sc4 Ffw
-/
import Derived.Test.YtelceoecekfamaaQ01
import Derived.Test.YtelceoecekfamaaQ02
import Derived.Test.YtelceoecekfamaaQ05
import Derived.Test.YtelceoecekfamaaQ06
import Derived.Test.YtelceoecekfamaaQ07
import Derived.BigQuiet
import Derived.Deep.RegionWith
import Derived.Laws.EntriesVeiled
import Derived.OwnWalk
set_option linter.unusedSimpArgs false
set_option linter.unusedVariables false
set_option maxRecDepth 100000
set_option maxHeartbeats 4000000
namespace Go.Proofs.Ytelceoecekfamaa
open Go.RowKit
variable {pc:Int}{ts:List Typ}{w:World}{x:Mod}
theorem qH {P:Prop} (h:P:=by
 clear h0 h1 h2 h3 h4 g0 g1 g2 hR
 go_enter Try.func51,Try.ntmps51
 go_wp2_with fail
 go_ret;exact⟨by rw[HN.out,←dge];rfl,HBel.out⟩):P:=h
theorem qa {P:Prop} (h:P:=by
 obtain rfl:k=n:=by omega
 go_wp2_with fail
 go_ret;exact⟨_,rfl,by rw[qIx HA.out HL.out];rfl,HB.out⟩):P:=h
theorem qh {P:Prop} (h:P:=by
 generalize r.length=rl at*;have hk0:0≤(k:Int):=by omega
 clear h0 h1 h2 h3 h4 g0 g1 g2 hR hr hc
 go_enter Try.func51,Try.ntmps51
 go_wp2_with fail
 go_quiet (fail)
 go_wp2_with fail
 go_ret;exact⟨by show Ending.returned (Value.bool (decide (n0≤k) || decide ((rl:Int)≤b)))=_;rw[HN.out,←dge,decide_eq_false (show ¬n0≤k by omega)];rfl,qBf HBel.out _ HBel.out.size⟩):P:=h
theorem qp {P:Prop} (h:P:=by
 have hge:(n0:Int)≤a:=by omega
 have hd:decide (a<(n0:Int))=false:=by simp;omega
 clear h0 h1 h2 h3 h4 g0 g1 g2 hR
 go_enter Try.func51,Try.ntmps51
 go_wp2_with fail
 go_quiet (fail)
 go_wp2_with fail
 go_ret;exact⟨by rw[HN.out];rfl,qBf HBel.out _ HBel.out.size⟩):P:=h
theorem zB {P:Prop} (h:P:=by
 go_ret;exact⟨_,rfl,by rw[E.out];simp,Hb2.out⟩):P:=h
theorem ze {P Q:Prop} (q:Q) (h:Q→P:=by
 have HC0:Hid (C5 w.heap.size (.slice A0 n0 d0) (.slice A1 n1 d1) (.slice A2 n2 d2) (.slice A3 n3 d3) (.slice A4 n4 d4) (w.alloc (.cells #[.slice A0 n0 d0,.slice A1 n1 d1,.slice A2 n2 d2,.slice A3 n3 d3,.slice A4 n4 d4] 28))):=by show C5 _ _ _ _ _ _ _;simp[C5,go_sem]
 intro kz;revert HC0;exact kz):P:=h q
theorem on_none (A B:Option Addr) (m c d:Nat) (ins outs ts:List Typ) (w:World) (hn:ins.length=0) (hm:outs.length=m) (hk:ts.length=0) (sn:Sq typL (·<w.heap.size) w A ins) (sm:Sq typL (·<w.heap.size) w B outs) (sk:Sq typL (·<w.heap.size) w none ts)
 (bm:m≤1000) (bd:m≤d) (bd2:d≤9223372036854775807):Calls Try.prog 59 #[.agg #[.slice A 0 c,.slice B m d],.slice none 0 0] w (Moved (movB ts ins outs) w):=by
 obtain rfl:ins=[]:=qAZ hn;obtain rfl:ts=[]:=qAZ hk;have HM:=qAF hm;have SM:=qAF sm;refine jP ?_;intro HB0;clear hn hm hk sn sm sk;have TE2:Hid (∀w1 c',Below w.heap.size w w1→Calls Try.prog 92 #[.slice none 0 c',.slice A 0 c,.func (.func 93) #[] #[]] w1 fun e w'=>e= .returned (.bool true)∧Below w1.heap.size w1 w'):=fun w1 c' hb1=>
  qBT none A 0 0 c' c [] [] w1 rfl rfl (Sq.nil _ _ _ _) (Sq.nil _ _ _ _) (by omega) (by omega)
 have TC:Hid (∀w1 G,Below w.heap.size w w1→Blk w1 G 42 #[.slice none 0 0,.slice B m d]→Calls Try.prog 94 #[.slice (some ⟨G,0,none⟩) 2 2] w1 fun e w'=>∃v,e= .returned v∧w'.ownsRow w1.heap.size 50 2 v outs.length (T2 outs)∧Below w1.heap.size w1 w'):=fun w1 G hb1 hblk=>by
  have r0:tysL.R (·<w1.heap.size) w1 [.slice none 0 0] []:=qB8 _ _ _;have r1:tysL.R (·<w1.heap.size) w1 [.slice B m d] outs:=⟨B,d,by rw[HM.out],by rw[HM.out];exact bd,by unfold maxLen;omega,(SM.out.below hb1 (qAI _)).wide fun i hi=>qAG hi hb1.size⟩;obtain⟨A9,c9,e9,-,-,hsq⟩:=qFa (L:=tysL) hblk hblk.lt rfl r0 r1;simp only[List.cons.injEq,Value.slice.injEq,and_true] at e9;obtain⟨rfl,-,-⟩:=e9;have:=qB9 (some ⟨G,0,none⟩) 2 2 [[],outs] w1 rfl hsq (by simp only[List.flatten_cons,List.flatten_nil,List.append_nil,List.nil_append,HM.out];omega) (by omega);simpa using this
 have HC:Hid (∀w1,Below (w.heap.size+1) (w.alloc (.cells #[.slice A 0 c,.slice B m d] 114)) w1→w1.cell? ⟨w.heap.size,0,none⟩=some (.slice A 0 c)∧w1.cell? ⟨w.heap.size,1,none⟩=some (.slice B m d)):=fun w1 hb1=>⟨(hb1.cell (p:=⟨w.heap.size,0,none⟩) (by simp)).trans zJ,(hb1.cell (p:=⟨w.heap.size,1,none⟩) (by simp)).trans zJ⟩;have HV1:Hid (8<m→movB [] [] outs=none):=fun h=>qCX (b:=0) rfl (by rw[HM.out];omega);have HV2:Hid (m≤8→movB [] [] outs=some outs):=fun h2=>qDP (s:=[]) (b:=0) rfl (qAI _) rfl (by rw[HM.out];omega)
 by_cases h8:8<m
 all_goals
  have hw1:IntKind.i64.wrap (m:Int)=(m:Int):=by rw[qAS];omega
  have h8i:decide ((8:Int)<(m:Int))=decide (8<m):=by rw[decide_eq_decide];omega
  try rw[decide_eq_true h8] at h8i
  try rw[decide_eq_false h8] at h8i
  go_enter Try.func59,Try.ntmps59
  go_wp2_with fail
  refine qAR fun U hU=> ?_;have HBU:Hid (Below w.heap.size w U):=by show Below _ _ _;rw[hU];exact HB0.out _
  have HCU:Hid (U.cell? ⟨w.heap.size,0,none⟩=some (.slice A 0 c)∧U.cell? ⟨w.heap.size,1,none⟩=some (.slice B m d)):=by show _∧_;rw[hU];exact HC.out _ (qAJ _ _)
  have hsU:w.heap.size<U.heap.size:=by rw[hU];simp
  clear hU;refine jR ?_;intro HBR;have x0:=cell_regrown HCU.out.1;have x1:=cell_regrown HCU.out.2;refine wp_region_quiet_below qL qL ?_
  repeat(quiet_step (first|with_reducible exact Calls.regrown_of (TE2.out _ _ (HBR.out _ _))))
  refine wpQuiet_nil ?_;intro _ hw';obtain⟨⟨dq,osq⟩,hw''⟩:=hw';subst hw'';refine jg ?_;intro HB1 HS1
  go_wp2_with fail
  first
  |(go_ret2
    exact⟨HB1.out,.inl ⟨by first|exact HV1.out h8,rfl⟩⟩)
  |skip
 all_goals
  refine qAR fun V hV=> ?_;refine jJ ?_;intro HBV HCV hsV;have HVX:=qAF (HV2.out (by omega));clear hV x0 x1
  go_region_held3 (fun w'=>w'.cell? ⟨w.heap.size,1,none⟩=some (.slice B m d))
   (first|exact HCV.out|exact SS4.out|exact(((qAN V _).cell (p:=⟨w.heap.size,1,none⟩) hsV).trans HCV.out)|exact(((qAN V _).drew.cell (p:=⟨w.heap.size,1,none⟩) hsV).trans HCV.out))
   (first
   |(go_at_call 94
     refine(TC.out _ V.heap.size ((HBV.out.alloc HBV.out.size _).drew) (qBe V _ _)).mono ?_;rintro e w4 ⟨v4,rfl,hown4,hb4⟩;refine jl ?_;intro HO4 HB4 SS4;clear hown4 hb4))
  go_wp2_with fail
  go_ret2;refine⟨HBV.out.trans (HB4.out.mono HBV.out.size),.inr ⟨_,v4,HVX.out,rfl,?_⟩⟩;refine⟨HO4.out.1,?_⟩;rcases HO4.out.2 with h|⟨g',cap,cur,e,hb2,rest⟩
  · exact .inl h
  · exact .inr ⟨g',cap,cur,e,by have:=HBV.out.size;simp at hb2;omega,rest⟩
theorem on_any (A B D:Option Addr) (n m k c d g:Nat) (ins outs ts:List Typ) (w:World) (hn:ins.length=n) (hm:outs.length=m) (hk:ts.length=k) (sn:Sq typL (·<w.heap.size) w A ins) (sm:Sq typL (·<w.heap.size) w B outs) (sk:Sq typL (·<w.heap.size) w D ts)
 (bn:n≤1000) (bm:m≤1000) (bk:k≤1000) (bg:k≤g) (bg2:g≤9223372036854775807) (bd:m≤d) (bd2:d≤9223372036854775807) (hnil:D=none→g=0):Calls Try.prog 59 #[.agg #[.slice A n c,.slice B m d],.slice D k g] w (Moved (movB ts ins outs) w):=by
 by_cases hlt:k<n
 · exact on_few A B D n m k c d g ins outs ts w hn hm hk sn sm sk hlt bn bm bk bg bg2 bd bd2
 · cases D with
   |none=>
    obtain rfl:=hnil rfl;obtain rfl:k=0:=by omega
    obtain rfl:n=0:=by omega
    exact on_none A B m c d ins outs ts w hn hm hk sn sm sk bm bd bd2
   |some a=>
    by_cases hg:g=k-n
    · exact on_full A B a n m k c d g ins outs ts w hn hm hk sn sm sk hlt hg bn bm bk bg bg2 bd bd2
    · exact on_far A B a n m k c d g ins outs ts w hn hm hk sn sm sk hlt hg bn bm bk bg bg2 bd bd2
theorem qHM (A:Option Addr) (n c:Nat) (xs:List Typ) (g:Typ→Bool) (w:World) (hl:xs.length=n) (h:Sq typL (·<w.heap.size) w A xs) (hn2:n≤9223372036854775807)
 (hG:∀(w1:World) (cs:List Value) (x:Typ),Below w.heap.size w w1→x∈xs→typL.R (·<w1.heap.size) w1 cs x→Calls Try.prog 28 #[vAgg cs] w1 (Tells (g x) w1)):
 Calls Try.prog 49 #[.slice A n c,.func (.func 28) #[] #[]] w fun e w'=>∃k:Int,e= .returned (.int .i64 k)∧decide (0≤k)=xs.any g∧Below w.heap.size w w':=by
 refine jV ?_;intro HL HS HP0;clear hl h hG
 go_enter Try.func49,Try.ntmps49
 go_wp2_with fail
 go_loopw [8] (fun i wr=>∃k:Nat,k≤n∧i= .int .i64 (k:Nat)∧(xs.take k).any g=false∧Below w.heap.size w wr) (fun i _=>n-(intOf i).toNat)
 case atStart=>exact⟨0,qAQ _,rfl,by simp,qAJ _ _⟩
 case round=>
  obtain⟨k,hk,rfl,hall,hbel⟩:=hrel;refine jQ ?_;intro HA HB hs;clear hall hbel
  by_cases hlt:k<n
  · skip
    refine zZ ?_;intro x hx hmem;obtain⟨a,cs,rfl,hab,hc,hr⟩:=HS.out.at hx;have HX:=qAF hx;clear hx;have HR:=qAF hr;obtain⟨rfl,-,-⟩:=hr;refine jL ?_;intro c0 c1;rw[qAL a (k*2) 1 (by omega)] at c1;have HP:Hid (∀w1,Below w.heap.size w w1→Calls Try.prog 28 #[.agg #[.int .i64 x.1,.int .i64 x.2]] w1 (Tells (g x) w1)):=fun w1 hb=>HP0.out w1 [.int .i64 x.1,.int .i64 x.2] x hb hmem (typL.wide (typL.keep HR.out fun b hb1=>hb.block b hb1) fun b hb1=>qAG hb1 hb.size);clear hc;have hk0:0≤(k:Int):=by omega
    cases hg:g x
    · rw[hg] at HP
      have HG:=qAF hg;clear hg
      go_wp2_with (first
       |(go_at_call 28
         refine(HP.out _ HB.out).mono ?_;rintro e w2 ⟨rfl,hb2⟩;refine jn ?_;intro Hb2;clear hb2))
      exact qm
    · rw[hg] at HP
      refine qAD ?_;intro e E;clear e hg
      go_wp2_with (first
       |(go_at_call 28
         refine(HP.out _ HB.out).mono ?_;rintro e w2 ⟨rfl,hb2⟩;refine jn ?_;intro Hb2;clear hb2))
      exact zB
  · exact qa
theorem qEY (A:Option Addr) (n c:Nat) (xs:List Typ) (g:Typ→Bool) (w:World) (hl:xs.length=n) (h:Sq typL (·<w.heap.size) w A xs) (hn2:n≤9223372036854775807)
 (hG:∀(w1:World) (cs:List Value) (x:Typ),Below w.heap.size w w1→x∈xs→typL.R (·<w1.heap.size) w1 cs x→Calls Try.prog 28 #[vAgg cs] w1 (Tells (g x) w1)):
 Calls Try.prog 27 #[.slice A n c,.func (.func 28) #[] #[]] w (Tells (xs.any g) w):=by
 have HC:=qAF (qHM A n c xs g w hl h hn2 hG);clear hl h hG;generalize xs.any g=ab at*
 go_enter Try.func27,Try.ntmps27
 go_wp2_with (first|(go_at_call 49;refine HC.out.mono ?_;rintro e w1 ⟨k,rfl,hk,hb⟩;have HB:=qAF hb;have HK:=qAF hk;clear hb hk))
 go_ret;exact⟨by rw[←HK.out];rfl,HB.out⟩
theorem qHK (A:Option Addr) (n c:Nat) (xs:List Typ) (g:Typ→Bool) (w:World) (hl:xs.length=n) (h:Sq typL (·<w.heap.size) w A xs) (hn2:n≤9223372036854775807)
 (hG:∀(w1:World) (cs:List Value) (x:Typ),Below w.heap.size w w1→x∈xs→typL.R (·<w1.heap.size) w1 cs x→Calls Try.prog 54 #[vAgg cs] w1 (Tells (g x) w1)):
 Calls Try.prog 49 #[.slice A n c,.func (.func 54) #[] #[]] w fun e w'=>∃k:Int,e= .returned (.int .i64 k)∧decide (0≤k)=xs.any g∧Below w.heap.size w w':=by
 refine jV ?_;intro HL HS HP0;clear hl h hG
 go_enter Try.func49,Try.ntmps49
 go_wp2_with fail
 go_loopw [8] (fun i wr=>∃k:Nat,k≤n∧i= .int .i64 (k:Nat)∧(xs.take k).any g=false∧Below w.heap.size w wr) (fun i _=>n-(intOf i).toNat)
 case atStart=>exact⟨0,qAQ _,rfl,by simp,qAJ _ _⟩
 case round=>
  obtain⟨k,hk,rfl,hall,hbel⟩:=hrel;refine jQ ?_;intro HA HB hs;clear hall hbel
  by_cases hlt:k<n
  · skip
    refine zZ ?_;intro x hx hmem;obtain⟨a,cs,rfl,hab,hc,hr⟩:=HS.out.at hx;have HX:=qAF hx;clear hx;have HR:=qAF hr;obtain⟨rfl,-,-⟩:=hr;refine jL ?_;intro c0 c1;rw[qAL a (k*2) 1 (by omega)] at c1;have HP:Hid (∀w1,Below w.heap.size w w1→Calls Try.prog 54 #[.agg #[.int .i64 x.1,.int .i64 x.2]] w1 (Tells (g x) w1)):=fun w1 hb=>HP0.out w1 [.int .i64 x.1,.int .i64 x.2] x hb hmem (typL.wide (typL.keep HR.out fun b hb1=>hb.block b hb1) fun b hb1=>qAG hb1 hb.size);clear hc;have hk0:0≤(k:Int):=by omega
    cases hg:g x
    · rw[hg] at HP
      have HG:=qAF hg;clear hg
      go_wp2_with (first
       |(go_at_call 54
         refine(HP.out _ HB.out).mono ?_;rintro e w2 ⟨rfl,hb2⟩;refine jn ?_;intro Hb2;clear hb2))
      exact qm
    · rw[hg] at HP
      refine qAD ?_;intro e E;clear e hg
      go_wp2_with (first
       |(go_at_call 54
         refine(HP.out _ HB.out).mono ?_;rintro e w2 ⟨rfl,hb2⟩;refine jn ?_;intro Hb2;clear hb2))
      exact zB
  · exact qa
theorem qEW (A:Option Addr) (n c:Nat) (xs:List Typ) (g:Typ→Bool) (w:World) (hl:xs.length=n) (h:Sq typL (·<w.heap.size) w A xs) (hn2:n≤9223372036854775807)
 (hG:∀(w1:World) (cs:List Value) (x:Typ),Below w.heap.size w w1→x∈xs→typL.R (·<w1.heap.size) w1 cs x→Calls Try.prog 54 #[vAgg cs] w1 (Tells (g x) w1)):
 Calls Try.prog 27 #[.slice A n c,.func (.func 54) #[] #[]] w (Tells (xs.any g) w):=by
 have HC:=qAF (qHK A n c xs g w hl h hn2 hG);clear hl h hG;generalize xs.any g=ab at*
 go_enter Try.func27,Try.ntmps27
 go_wp2_with (first|(go_at_call 49;refine HC.out.mono ?_;rintro e w1 ⟨k,rfl,hk,hb⟩;have HB:=qAF hb;have HK:=qAF hk;clear hb hk))
 go_ret;exact⟨by rw[←HK.out];rfl,HB.out⟩
theorem qD6 (x:Typ) (w:World) (cs:List Value) (hr:typL.R (·<w.heap.size) w cs x):Calls Try.prog 28 #[vAgg cs] w (Tells (hanB x) w):=by
 obtain⟨rfl,-,-⟩:=hr
 show Calls Try.prog 28 #[.agg #[.int .i64 x.1,.int .i64 x.2]] w (Tells (hanB x) w)
 have HD:Hid (hanB x=(x.1==5)):=by show hanB x=_;rw[Bool.eq_iff_iff];simp[hanB]
 generalize hanB x=gd at*;generalize x.1=q1 at*;generalize x.2=q2 at*
 go_enter Try.func28,Try.ntmps28
 go_wp2_with fail
 go_ret;exact⟨by rw[HD.out];rfl,(qAJ _ _).alloc (qAI _) _⟩
theorem qDv (x:Typ) (w:World) (cs:List Value) (hr:typL.R (·<w.heap.size) w cs x):Calls Try.prog 54 #[vAgg cs] w (Tells (!hostB x) w):=by
 have HC:Hid (∀w1,Calls Try.prog 28 #[.agg #[.int .i64 x.1,.int .i64 x.2]] w1 (Tells (hanB x) w1)):=fun w1=>qD6 x w1 _ ⟨rfl,hr.2⟩;obtain⟨rfl,-,-⟩:=hr
 show Calls Try.prog 54 #[.agg #[.int .i64 x.1,.int .i64 x.2]] w (Tells (!hostB x) w)
 refine jh ?_;intro HB0
 by_cases h:x.1=1
 · have HD:Hid (hostB x=true):=by show hostB x=_;simp[hostB,h]
   have b:(x.1 != 1)=false:=by simpa using h
   clear h;generalize hostB x=gd at*;generalize x.1=q1 at*;generalize x.2=q2 at*
   go_enter Try.func54,Try.ntmps54
   go_wp2_with fail
   go_ret;exact⟨by rw[HD.out];rfl,HB0.out _⟩
 · have HD:Hid (hostB x=hanB x):=by show hostB x=_;simp[hostB,hanB,h]
   have b:(x.1 != 1)=true:=by simpa using h
   clear h;generalize hostB x=gd at*;generalize hanB x=ge at*;generalize x.1=q1 at*;generalize x.2=q2 at*
   go_enter Try.func54,Try.ntmps54
   go_wp2_with (first|(go_at_call 28;refine(HC.out _).mono ?_;rintro e w1 ⟨rfl,hb⟩;have HB:=qAF ((HB0.out _).trans (hb.mono (by simp)));clear hb))
   go_ret;exact⟨by rw[HD.out];rfl,HB.out⟩
theorem qCu (x:Imp) (w:World) (cs:List Value) (hr:impL.R (·<w.heap.size) w cs x):Calls Try.prog 33 #[vAgg cs] w (Tells (badImp x) w):=by
 obtain⟨p0,rfl,i1,i2,⟨A4,d4,e4,l4,m4,s4⟩⟩:=hr;simp only[List.cons.injEq,and_true] at e4;subst e4
 show Calls Try.prog 33 #[.agg #[.slice A4 x.args.length d4,.int .i64 x.ret.1,.int .i64 x.ret.2]] w (Tells (badImp x) w)
 obtain⟨n,hn⟩:∃n,x.args.length=n:=⟨_,rfl⟩;have hn2:n≤9223372036854775807:=by unfold maxLen at m4;omega
 have T0:Hid (∀w1,Below w.heap.size w w1→Calls Try.prog 27 #[.slice A4 n d4,.func (.func 54) #[] #[]] w1 (Tells (x.args.any fun t=> !hostB t) w1)):=fun w1 hb=>
  qEW A4 n d4 x.args (fun t=> !hostB t) w1 hn ((s4.keep fun b hb1=>hb.block b hb1).wide fun b hb1=>qAG hb1 hb.size) hn2 fun w2 cs y _ _ hr=>qDv y w2 cs hr
 have T1:Hid (∀w1,Calls Try.prog 54 #[.agg #[.int .i64 x.ret.1,.int .i64 x.ret.2]] w1 (Tells (!hostB x.ret) w1)):=fun w1=>qDv x.ret w1 _ ⟨rfl,i1,i2⟩;have HO:Hid (badImp x=((x.args.any fun t=> !hostB t) || !hostB x.ret)):=rfl;rw[hn];clear hn l4 m4 s4 i1 i2;generalize badImp x=gd at*;generalize (x.args.any fun t=> !hostB t)=b1 at*;generalize (!hostB x.ret)=b2 at*;generalize x.ret.1=k1 at*;generalize x.ret.2=k2 at*;have HB0:Hid (Below w.heap.size w (w.alloc (.cells #[.slice A4 n d4,.int .i64 k1,.int .i64 k2] 55))):=(qAJ _ _).alloc (qAI _) _;have HX1:Hid (∀w1,Below (w.alloc (.cells #[.slice A4 n d4,.int .i64 k1,.int .i64 k2] 55)).heap.size (w.alloc (.cells #[.slice A4 n d4,.int .i64 k1,.int .i64 k2] 55)) w1→w1.cell? ⟨w.heap.size,1,none⟩=some (.int .i64 k1)∧w1.cell? ⟨w.heap.size,2,none⟩=some (.int .i64 k2)):=fun w1 h1=>
  ⟨(h1.cell (p:=⟨w.heap.size,1,none⟩) (by simp)).trans zJ,(h1.cell (p:=⟨w.heap.size,2,none⟩) (by simp)).trans zJ⟩
 cases b1
 all_goals
  go_enter Try.func33,Try.ntmps33
  go_wp2_with (first
   |(go_at_call 27
     refine(T0.out _ HB0.out).mono ?_;rintro e w1 ⟨rfl,hb1⟩;have HB1:=qAF (HB0.out.trans (hb1.mono HB0.out.size));obtain⟨y1,y2⟩:=HX1.out w1 hb1;clear hb1)
   |(go_at_call 54
     refine(T1.out _).mono ?_;rintro e w2 ⟨rfl,hb2⟩;refine jU ?_;intro HB2;clear hb2))
  go_ret
 · exact⟨by rw[HO.out];rfl,HB2.out⟩
 · exact⟨by rw[HO.out];rfl,HB1.out⟩
theorem qHL (A:Option Addr) (n c:Nat) (xs:List Ins) (g:Ins→Bool) (p7:Addr) (p8:Addr) (w:World) (hl:xs.length=n) (h:Sq insL (·<w.heap.size) w A xs) (hn2:n≤9223372036854775807)
 (hG:∀(w1:World) (cs:List Value) (x:Ins),Below w.heap.size w w1→x∈xs→insL.R (·<w1.heap.size) w1 cs x→Calls Try.prog 51 #[vAgg cs,.pointer (some p7),.pointer (some p8)] w1 (Tells (g x) w1)):
 Calls Try.prog 50 #[.slice A n c,.func (.func 51) #[] #[.pointer (some p7),.pointer (some p8)]] w fun e w'=>∃k:Int,e= .returned (.int .i64 k)∧decide (0≤k)=xs.any g∧Below w.heap.size w w':=by
 refine jV ?_;intro HL HS HP0;clear hl h hG
 go_enter Try.func50,Try.ntmps50
 go_wp2_with fail
 go_loopw [8] (fun i wr=>∃k:Nat,k≤n∧i= .int .i64 (k:Nat)∧(xs.take k).any g=false∧Below w.heap.size w wr) (fun i _=>n-(intOf i).toNat)
 case atStart=>exact⟨0,qAQ _,rfl,by simp,qAJ _ _⟩
 case round=>
  obtain⟨k,hk,rfl,hall,hbel⟩:=hrel;refine jQ ?_;intro HA HB hs;clear hall hbel
  by_cases hlt:k<n
  · skip
    refine zZ ?_;intro x hx hmem;obtain⟨a,cs,rfl,hab,hc,hr⟩:=HS.out.at hx;have HX:=qAF hx;clear hx;have HR:=qAF hr;obtain⟨rfl,-,-,-⟩:=hr;refine jE ?_;intro c0 c1;rw[qAL a (k*3) 1 (by omega)] at c1;refine jp ?_;intro c2;rw[qAL a (k*3) 2 (by omega)] at c2;have HP:Hid (∀w1,Below w.heap.size w w1→Calls Try.prog 51 #[.agg #[.int .i64 x.1,.int .i64 x.2.1,.int .i64 x.2.2],.pointer (some p7),.pointer (some p8)] w1 (Tells (g x) w1)):=fun w1 hb=>HP0.out w1 [.int .i64 x.1,.int .i64 x.2.1,.int .i64 x.2.2] x hb hmem (insL.wide (insL.keep HR.out fun b hb1=>hb.block b hb1) fun b hb1=>qAG hb1 hb.size);clear hc;have hk0:0≤(k:Int):=by omega
    cases hg:g x
    · rw[hg] at HP
      have HG:=qAF hg;clear hg
      go_wp2_with (first
       |(go_at_call 51
         refine(HP.out _ HB.out).mono ?_;rintro e w2 ⟨rfl,hb2⟩;refine jn ?_;intro Hb2;clear hb2))
      exact qm
    · rw[hg] at HP
      refine qAD ?_;intro e E;clear e hg
      go_wp2_with (first
       |(go_at_call 51
         refine(HP.out _ HB.out).mono ?_;rintro e w2 ⟨rfl,hb2⟩;refine jn ?_;intro Hb2;clear hb2))
      exact zB
  · exact qa
theorem qEX (A:Option Addr) (n c:Nat) (xs:List Ins) (g:Ins→Bool) (p7:Addr) (p8:Addr) (w:World) (hl:xs.length=n) (h:Sq insL (·<w.heap.size) w A xs) (hn2:n≤9223372036854775807)
 (hG:∀(w1:World) (cs:List Value) (x:Ins),Below w.heap.size w w1→x∈xs→insL.R (·<w1.heap.size) w1 cs x→Calls Try.prog 51 #[vAgg cs,.pointer (some p7),.pointer (some p8)] w1 (Tells (g x) w1)):
 Calls Try.prog 29 #[.slice A n c,.func (.func 51) #[] #[.pointer (some p7),.pointer (some p8)]] w (Tells (xs.any g) w):=by
 have HC:=qAF (qHL A n c xs g p7 p8 w hl h hn2 hG);clear hl h hG;generalize xs.any g=ab at*
 go_enter Try.func29,Try.ntmps29
 go_wp2_with (first|(go_at_call 50;refine HC.out.mono ?_;rintro e w1 ⟨k,rfl,hk,hb⟩;have HB:=qAF hb;have HK:=qAF hk;clear hb hk))
 go_ret;exact⟨by rw[←HK.out];rfl,HB.out⟩
theorem qEM (A0 A1 A2 A3 A4 P0 P1 P2:Option Addr) (n0 n1 n2 n3 n4 d0 d1 d2 d3 d4 u0 u1 u2 c0 c1 c2:Nat) (r1 r2:Int) (m:Mod) (f:Fn) (o a b:Int) (w:World) (B G:Nat) (h0:m.recs.length=n0) (h1:m.funcs.length=n1) (h2:m.imps.length=n2) (h3:m.ints.length=n3) (h4:m.texts.length=n4) (g0:f.args.length=u0) (g1:f.locs.length=u1) (g2:f.code.length=u2) (hn0:n0≤9223372036854775807) (hu0:u0≤1000) (hu1:u1≤1000) (ha:0≤a∧a≤255) (hb:0≤b∧b≤255) (hR:Sq tysL (·<w.heap.size) w A0 m.recs) (hC:C5 B (.slice A0 n0 d0) (.slice A1 n1 d1) (.slice A2 n2 d2) (.slice A3 n3 d3) (.slice A4 n4 d4) w) (hD:C5 G (.slice P0 u0 c0) (.int .i64 r1) (.int .i64 r2) (.slice P1 u1 c1) (.slice P2 u2 c2) w):
 Calls Try.prog 51 #[.agg #[.int .i64 o,.int .i64 a,.int .i64 b],.pointer (some ⟨B,0,none⟩),.pointer (some ⟨G,0,none⟩)] w (Tells (!namedB m f (o,a,b)) w):=by
 have HBel:Hid (Below w.heap.size w (w.alloc (.cells #[.int .i64 o,.int .i64 a,.int .i64 b] 58))):=(qAJ _ _).alloc (qAI _) _;have hBl:=qAO w _ hC.1;have hGl:=qAO w _ hD.1;simp only at hBl hGl;have hBn:B≠w.heap.size:=by omega
 have hGn:G≠w.heap.size:=by omega
 obtain⟨x0,x1,x2,x3,x4⟩:=hC;obtain⟨y0,y1,y2,y3,y4⟩:=hD
 by_cases e0:o=0
 · subst e0
   have HN:Hid (namedB m f (0,a,b)=decide (a<(n3:Int))):=by show namedB _ _ _=_;simp[namedB,h0,h1,h2,h3,h4,g0,g1,g2]
   generalize namedB m f (0,a,b)=nb at*;exact qH
 by_cases e1:o=1
 · subst e1
   have HN:Hid (namedB m f (1,a,b)=decide (a<(n4:Int))):=by show namedB _ _ _=_;simp[namedB,h0,h1,h2,h3,h4,g0,g1,g2]
   generalize namedB m f (1,a,b)=nb at*;exact qH
 by_cases e3:o=3
 · subst e3
   have HN:Hid (namedB m f (3,a,b)=decide (a<(u0:Int)+(u1:Int))):=by show namedB _ _ _=_;simp[namedB,h0,h1,h2,h3,h4,g0,g1,g2]
   generalize namedB m f (3,a,b)=nb at*;exact qH
 by_cases e4:o=4
 · subst e4
   have HN:Hid (namedB m f (4,a,b)=decide (a<(u0:Int)+(u1:Int))):=by show namedB _ _ _=_;simp[namedB,h0,h1,h2,h3,h4,g0,g1,g2]
   generalize namedB m f (4,a,b)=nb at*;exact qH
 by_cases e23:o=23
 · subst e23
   have HN:Hid (namedB m f (23,a,b)=decide (a<(u2:Int))):=by show namedB _ _ _=_;simp[namedB,h0,h1,h2,h3,h4,g0,g1,g2]
   generalize namedB m f (23,a,b)=nb at*;exact qH
 by_cases e24:o=24
 · subst e24
   have HN:Hid (namedB m f (24,a,b)=decide (a<(u2:Int))):=by show namedB _ _ _=_;simp[namedB,h0,h1,h2,h3,h4,g0,g1,g2]
   generalize namedB m f (24,a,b)=nb at*;exact qH
 by_cases e25:o=25
 · subst e25
   have HN:Hid (namedB m f (25,a,b)=decide (a<(n1:Int))):=by show namedB _ _ _=_;simp[namedB,h0,h1,h2,h3,h4,g0,g1,g2]
   generalize namedB m f (25,a,b)=nb at*;exact qH
 by_cases e27:o=27
 · subst e27
   have HN:Hid (namedB m f (27,a,b)=decide (a<(n2:Int))):=by show namedB _ _ _=_;simp[namedB,h0,h1,h2,h3,h4,g0,g1,g2]
   generalize namedB m f (27,a,b)=nb at*;exact qH
 by_cases e28:o=28
 · subst e28
   have HN:Hid (namedB m f (28,a,b)=decide (a<(n0:Int))):=by show namedB _ _ _=_;simp[namedB,h0,h1,h2,h3,h4,g0,g1,g2]
   generalize namedB m f (28,a,b)=nb at*;exact qH
 by_cases e29:o=29
 · subst e29
   by_cases hlt:a<(n0:Int)
   · obtain⟨k,rfl⟩:∃k:Nat,a=(k:Int):=⟨a.toNat,by omega⟩
     have hk:k<n0:=by omega
     obtain⟨r,hr⟩:∃r,m.recs[k]? =some r:=⟨m.recs[k]'(by rw[h0];exact hk),List.getElem?_eq_getElem _⟩;have HN:Hid (namedB m f (29,(k:Int),b)=decide (b<(r.length:Int))):=by show namedB _ _ _=_;simp[namedB,hr]
     obtain⟨a0,cs,ea,hab,hc,hRr⟩:=hR.at hr;subst ea;obtain⟨Q0,q0,rfl,-,-,-⟩:=hRr;refine j8 ?_;intro cr cr2;generalize namedB m f (29,(k:Int),b)=nb at*;exact qh
   · have HN:Hid (namedB m f (29,a,b)=false):=by
      show namedB _ _ _=_
      have hz:m.recs[a.toNat]? =none:=List.getElem?_eq_none (by rw[h0];omega);simp[namedB,hz]
     generalize namedB m f (29,a,b)=nb at*;exact qp
 by_cases e30:o=30
 · subst e30
   by_cases hlt:a<(n0:Int)
   · obtain⟨k,rfl⟩:∃k:Nat,a=(k:Int):=⟨a.toNat,by omega⟩
     have hk:k<n0:=by omega
     obtain⟨r,hr⟩:∃r,m.recs[k]? =some r:=⟨m.recs[k]'(by rw[h0];exact hk),List.getElem?_eq_getElem _⟩;have HN:Hid (namedB m f (30,(k:Int),b)=decide (b<(r.length:Int))):=by show namedB _ _ _=_;simp[namedB,hr]
     obtain⟨a0,cs,ea,hab,hc,hRr⟩:=hR.at hr;subst ea;obtain⟨Q0,q0,rfl,-,-,-⟩:=hRr;refine j8 ?_;intro cr cr2;generalize namedB m f (30,(k:Int),b)=nb at*;exact qh
   · have HN:Hid (namedB m f (30,a,b)=false):=by
      show namedB _ _ _=_
      have hz:m.recs[a.toNat]? =none:=List.getElem?_eq_none (by rw[h0];omega);simp[namedB,hz]
     generalize namedB m f (30,a,b)=nb at*;exact qp
 have HN:Hid (namedB m f (o,a,b)=true):=by show namedB _ _ _=_;simp[namedB,e0,e1,e3,e4,e23,e24,e25,e27,e28,e29,e30]
 have b0:(o==0)=false:=by simpa using e0
 have b1:(o==1)=false:=by simpa using e1
 have b3:(o==3)=false:=by simpa using e3
 have b4:(o==4)=false:=by simpa using e4
 have b23:(o==23)=false:=by simpa using e23
 have b24:(o==24)=false:=by simpa using e24
 have b25:(o==25)=false:=by simpa using e25
 have b27:(o==27)=false:=by simpa using e27
 have b28:(o==28)=false:=by simpa using e28
 have b29:(o==29)=false:=by simpa using e29
 have b30:(o==30)=false:=by simpa using e30
 generalize namedB m f (o,a,b)=nb at*;clear h0 h1 h2 h3 h4 g0 g1 g2 hR e0 e1 e3 e4 e23 e24 e25 e27 e28 e29 e30
 go_enter Try.func51,Try.ntmps51
 go_wp2_with fail
 go_ret;exact⟨by rw[HN.out];rfl,HBel.out⟩
theorem qE4 (v0 v1 v2 v3 v4 p0 p1 p2 p3 p4:Value) (w:World):
 Calls Try.prog 30 #[.agg #[v0,v1,v2,v3,v4],.agg #[p0,p1,p2,p3,p4]] w fun e w'=>
  e= .returned (.func (.func 51) #[] #[.pointer (some ⟨w.heap.size,0,none⟩),.pointer (some ⟨w.heap.size+1,0,none⟩)])∧Below w.heap.size w w'∧C5 w.heap.size v0 v1 v2 v3 v4 w'∧C5 (w.heap.size+1) p0 p1 p2 p3 p4 w':=by
 go_enter Try.func30,Try.ntmps30
 go_wp2_with fail
 go_ret;exact⟨rfl,((qAJ _ _).alloc (qAI _) _).alloc (by simp) _,by simp[C5,go_sem],by simp[C5,go_sem]⟩
theorem qGK (A0 A1 A2 A3 A4:Option Addr) (n0 n1 n2 n3 n4 d0 d1 d2 d3 d4:Nat) (m:Mod) (B:Nat) (x:Fn) (w:World) (h0:m.recs.length=n0) (h1:m.funcs.length=n1) (h2:m.imps.length=n2) (h3:m.ints.length=n3) (h4:m.texts.length=n4)
 (hn0:n0≤9223372036854775807) (hR:Sq tysL (·<w.heap.size) w A0 m.recs) (hC:C5 B (.slice A0 n0 d0) (.slice A1 n1 d1) (.slice A2 n2 d2) (.slice A3 n3 d3) (.slice A4 n4 d4) w)
 (cs:List Value) (hr:fnL.R (·<w.heap.size) w cs x) (hx:fnOk n0 x=true):
 Calls Try.prog 26 #[vAgg cs,.pointer (some ⟨B,0,none⟩)] w (Tells (badFn m x) w):=by
 obtain⟨z1,z2,z3,z4,-,-,-,z8⟩:=qDZ hx;obtain⟨p0,p1,p2,rfl,i1,i2,⟨P0,c0,e4,l4,m4,s4⟩,⟨P1,c1,e5,l5,m5,s5⟩,⟨P2,c2,e6,l6,m6,s6⟩⟩:=hr;simp only[List.cons.injEq,and_true] at e4 e5 e6;subst e4 e5 e6;obtain⟨u0,g0⟩:∃n,x.args.length=n:=⟨_,rfl⟩;obtain⟨u1,g1⟩:∃n,x.locs.length=n:=⟨_,rfl⟩;obtain⟨u2,g2⟩:∃n,x.code.length=n:=⟨_,rfl⟩
 show Calls Try.prog 26 #[.agg #[.slice P0 x.args.length c0,.int .i64 x.ret.1,.int .i64 x.ret.2,.slice P1 x.locs.length c1,.slice P2 x.code.length c2],.pointer (some ⟨B,0,none⟩)] w (Tells (badFn m x) w)
 rw[g0,g1,g2];have T0:Hid (∀w1,Below w.heap.size w w1→Calls Try.prog 27 #[.slice P1 u1 c1,.func (.func 28) #[] #[]] w1 (Tells (x.locs.any hanB) w1)):=fun w1 hb=>
  qEY P1 u1 c1 x.locs hanB w1 g1 ((s5.keep fun b hb1=>hb.block b hb1).wide fun b hb1=>qAG hb1 hb.size) (by omega) fun w2 cs y _ _ hr=>qD6 y w2 cs hr
 have T2:Hid (∀w1 (p7 p8:Nat),Below w.heap.size w w1→C5 p7 (.slice A0 n0 d0) (.slice A1 n1 d1) (.slice A2 n2 d2) (.slice A3 n3 d3) (.slice A4 n4 d4) w1→C5 p8 (.slice P0 u0 c0) (.int .i64 x.ret.1) (.int .i64 x.ret.2) (.slice P1 u1 c1) (.slice P2 u2 c2) w1→
  Calls Try.prog 29 #[.slice P2 u2 c2,.func (.func 51) #[] #[.pointer (some ⟨p7,0,none⟩),.pointer (some ⟨p8,0,none⟩)]] w1 (Tells (x.code.any fun i=> !namedB m x i) w1)):=fun w1 p7 p8 hb hc1 hc2=>
  qEX P2 u2 c2 x.code (fun i=> !namedB m x i) ⟨p7,0,none⟩ ⟨p8,0,none⟩ w1 g2 ((s6.keep fun b hb1=>hb.block b hb1).wide fun b hb1=>qAG hb1 hb.size) (by omega) fun w2 cs y hb2 hy hr=>by
   obtain⟨rfl,-⟩:=hr;obtain⟨o,a,b⟩:=y;obtain⟨o1,a1,b1,e1,e2,e3,q1,q2,q3⟩:=qAi (op:=o) (a:=a) (b:=b) (z8 _ hy);have hb3:Below w.heap.size w w2:=hb.trans (hb2.mono hb.size);exact qEM A0 A1 A2 A3 A4 P0 P1 P2 n0 n1 n2 n3 n4 d0 d1 d2 d3 d4 u0 u1 u2 c0 c1 c2 x.ret.1 x.ret.2 m x o a b w2 p7 p8 h0 h1 h2 h3 h4 g0 g1 g2 hn0 (by omega) (by omega) (by omega) (by omega) ((hR.keep fun b hb1=>hb3.block b hb1).wide fun b hb1=>qAG hb1 hb3.size)
    (hc1.below hb2 (qAO w1 _ hc1.1)) (hc2.below hb2 (qAO w1 _ hc2.1))
 have HO:Hid (badFn m x=(x.locs.any hanB || x.code.any fun i=> !namedB m x i)):=rfl;have HB0:Hid (Below w.heap.size w (w.alloc (.cells #[.slice P0 u0 c0,.int .i64 x.ret.1,.int .i64 x.ret.2,.slice P1 u1 c1,.slice P2 u2 c2] 53))):=(qAJ _ _).alloc (qAI _) _;have HC0:Hid (C5 B (.slice A0 n0 d0) (.slice A1 n1 d1) (.slice A2 n2 d2) (.slice A3 n3 d3) (.slice A4 n4 d4) (w.alloc (.cells #[.slice P0 u0 c0,.int .i64 x.ret.1,.int .i64 x.ret.2,.slice P1 u1 c1,.slice P2 u2 c2] 53))∧C5 w.heap.size (.slice P0 u0 c0) (.int .i64 x.ret.1) (.int .i64 x.ret.2) (.slice P1 u1 c1) (.slice P2 u2 c2) (w.alloc (.cells #[.slice P0 u0 c0,.int .i64 x.ret.1,.int .i64 x.ret.2,.slice P1 u1 c1,.slice P2 u2 c2] 53))):=
  ⟨hC.below HB0.out (qAO w _ hC.1),by simp[C5,go_sem]⟩
 have hBl:=qAO w _ hC.1;simp only at hBl;clear g0 g1 g2 h0 h1 h2 h3 h4 hR hC i1 i2 s4 s5 s6 l4 l5 l6 m4 m5 m6 z8 hx;generalize badFn m x=gd at*;generalize x.locs.any hanB=b1 at*;generalize (x.code.any fun i=> !namedB m x i)=b2 at*;generalize x.ret.1=k1 at*;generalize x.ret.2=k2 at*
 go_enter Try.func26,Try.ntmps26
 go_wp2_with fail
 refine qAR fun W hW=> ?_;rw[←hW] at HB0 HC0;have hs:w.heap.size<W.heap.size:=by rw[hW];simp
 clear hW;have HKK:Hid (∀w1,Below W.heap.size W w1→C5 B (.slice A0 n0 d0) (.slice A1 n1 d1) (.slice A2 n2 d2) (.slice A3 n3 d3) (.slice A4 n4 d4) w1∧C5 w.heap.size (.slice P0 u0 c0) (.int .i64 k1) (.int .i64 k2) (.slice P1 u1 c1) (.slice P2 u2 c2) w1):=fun w1 hb=>⟨HC0.out.1.below hb (by omega),HC0.out.2.below hb hs⟩;obtain⟨⟨x0,x1,x2,x3,x4⟩,y0,y1,y2,y3,y4⟩:=HC0.out
 cases b1
 all_goals
  first|(go_region_with (first
   |(go_at_call 27
     refine(T0.out _ HB0.out.drew).mono ?_;rintro e w1 ⟨rfl,hb1⟩;have HX1:=qAF (((qAJ W.heap.size W).drew).trans hb1);have HB1:=qAF (HB0.out.trans (HX1.out.mono HB0.out.size));obtain⟨⟨q0,q1,q2,q3,q4⟩,t0,t1,t2,t3,t4⟩:=HKK.out w1 HX1.out;clear hb1)
   |(go_at_call 30
     refine(qE4 _ _ _ _ _ _ _ _ _ _ _).mono ?_;rintro e w2 ⟨rfl,hb2,hc2,hc3⟩;have HX2:=qAF (HX1.out.trans (hb2.mono HX1.out.size));have HB2:=qAF (HB0.out.trans (HX2.out.mono HB0.out.size));obtain⟨⟨r0,r1,r2,r3,r4⟩,s0,s1,s2,s3,s4⟩:=HKK.out w2 HX2.out;have HM2:=qAF hc2;have HM3:=qAF hc3;clear hb2 hc2 hc3)
   |(go_at_call 29
     refine(T2.out _ _ _ HB2.out HM2.out HM3.out).mono ?_;rintro e w3 ⟨rfl,hb3⟩;have HX3:=qAF (HX2.out.trans (hb3.mono HX2.out.size));have HB3:=qAF (HB0.out.trans (HX3.out.mono HB0.out.size));clear hb3)))|fail
 all_goals
  go_wp2_with fail
  go_ret
  first|exact⟨by rw[HO.out];rfl,HB3.out⟩|exact⟨by rw[HO.out];rfl,HB1.out⟩
theorem qHO (A:Option Addr) (n c:Nat) (xs:List Fn) (g:Fn→Bool) (p7:Addr) (w:World) (hl:xs.length=n) (h:Sq fnL (·<w.heap.size) w A xs) (hn2:n≤9223372036854775807)
 (hG:∀(w1:World) (cs:List Value) (x:Fn),Below w.heap.size w w1→x∈xs→fnL.R (·<w1.heap.size) w1 cs x→Calls Try.prog 26 #[vAgg cs,.pointer (some p7)] w1 (Tells (g x) w1)):
 Calls Try.prog 52 #[.slice A n c,.func (.func 26) #[] #[.pointer (some p7)]] w fun e w'=>∃k:Int,e= .returned (.int .i64 k)∧decide (0≤k)=xs.any g∧Below w.heap.size w w':=by
 refine jV ?_;intro HL HS HP0;clear hl h hG
 go_enter Try.func52,Try.ntmps52
 go_wp2_with fail
 go_loopw [8] (fun i wr=>∃k:Nat,k≤n∧i= .int .i64 (k:Nat)∧(xs.take k).any g=false∧Below w.heap.size w wr) (fun i _=>n-(intOf i).toNat)
 case atStart=>exact⟨0,qAQ _,rfl,by simp,qAJ _ _⟩
 case round=>
  obtain⟨k,hk,rfl,hall,hbel⟩:=hrel;refine jQ ?_;intro HA HB hs;clear hall hbel
  by_cases hlt:k<n
  · skip
    refine zZ ?_;intro x hx hmem;obtain⟨a,cs,rfl,hab,hc,hr⟩:=HS.out.at hx;have HX:=qAF hx;clear hx;have HR:=qAF hr;obtain⟨p0,p1,p2,rfl,-,-,⟨A4,d4,e4,-⟩,⟨A5,d5,e5,-⟩,⟨A6,d6,e6,-⟩⟩:=hr;simp only[List.cons.injEq,and_true] at e4 e5 e6;subst e4 e5 e6;refine jq ?_;intro c0 c1;rw[qAL a (k*5) 1 (by omega)] at c1;have c2:=(HB.out.cell (p:=a.add (k*5+2)) qA).trans (hc 2 _ rfl);rw[qAL a (k*5) 2 (by omega)] at c2;have c3:=(HB.out.cell (p:=a.add (k*5+3)) qA).trans (hc 3 _ rfl);rw[qAL a (k*5) 3 (by omega)] at c3;have c4:=(HB.out.cell (p:=a.add (k*5+4)) qA).trans (hc 4 _ rfl);rw[qAL a (k*5) 4 (by omega)] at c4;have HP:Hid (∀w1,Below w.heap.size w w1→Calls Try.prog 26 #[.agg #[.slice A4 x.args.length d4,.int .i64 x.ret.1,.int .i64 x.ret.2,.slice A5 x.locs.length d5,.slice A6 x.code.length d6],.pointer (some p7)] w1 (Tells (g x) w1)):=fun w1 hb=>HP0.out w1 [.slice A4 x.args.length d4,.int .i64 x.ret.1,.int .i64 x.ret.2,.slice A5 x.locs.length d5,.slice A6 x.code.length d6] x hb hmem (fnL.wide (fnL.keep HR.out fun b hb1=>hb.block b hb1) fun b hb1=>qAG hb1 hb.size);clear hc;have hk0:0≤(k:Int):=by omega
    cases hg:g x
    · rw[hg] at HP
      have HG:=qAF hg;clear hg
      go_wp2_with (first
       |(go_at_call 26
         refine(HP.out _ HB.out).mono ?_;rintro e w2 ⟨rfl,hb2⟩;refine jn ?_;intro Hb2;clear hb2))
      exact qm
    · rw[hg] at HP
      refine qAD ?_;intro e E;clear e hg
      go_wp2_with (first
       |(go_at_call 26
         refine(HP.out _ HB.out).mono ?_;rintro e w2 ⟨rfl,hb2⟩;refine jn ?_;intro Hb2;clear hb2))
      exact zB
  · exact qa
theorem qEa (A:Option Addr) (n c:Nat) (xs:List Fn) (g:Fn→Bool) (p7:Addr) (w:World) (hl:xs.length=n) (h:Sq fnL (·<w.heap.size) w A xs) (hn2:n≤9223372036854775807)
 (hG:∀(w1:World) (cs:List Value) (x:Fn),Below w.heap.size w w1→x∈xs→fnL.R (·<w1.heap.size) w1 cs x→Calls Try.prog 26 #[vAgg cs,.pointer (some p7)] w1 (Tells (g x) w1)):
 Calls Try.prog 31 #[.slice A n c,.func (.func 26) #[] #[.pointer (some p7)]] w (Tells (xs.any g) w):=by
 have HC:=qAF (qHO A n c xs g p7 w hl h hn2 hG);clear hl h hG;generalize xs.any g=ab at*
 go_enter Try.func31,Try.ntmps31
 go_wp2_with (first|(go_at_call 52;refine HC.out.mono ?_;rintro e w1 ⟨k,rfl,hk,hb⟩;have HB:=qAF hb;have HK:=qAF hk;clear hb hk))
 go_ret;exact⟨by rw[←HK.out];rfl,HB.out⟩
theorem qHN (A:Option Addr) (n c:Nat) (xs:List Imp) (g:Imp→Bool) (w:World) (hl:xs.length=n) (h:Sq impL (·<w.heap.size) w A xs) (hn2:n≤9223372036854775807)
 (hG:∀(w1:World) (cs:List Value) (x:Imp),Below w.heap.size w w1→x∈xs→impL.R (·<w1.heap.size) w1 cs x→Calls Try.prog 33 #[vAgg cs] w1 (Tells (g x) w1)):
 Calls Try.prog 53 #[.slice A n c,.func (.func 33) #[] #[]] w fun e w'=>∃k:Int,e= .returned (.int .i64 k)∧decide (0≤k)=xs.any g∧Below w.heap.size w w':=by
 refine jV ?_;intro HL HS HP0;clear hl h hG
 go_enter Try.func53,Try.ntmps53
 go_wp2_with fail
 go_loopw [8] (fun i wr=>∃k:Nat,k≤n∧i= .int .i64 (k:Nat)∧(xs.take k).any g=false∧Below w.heap.size w wr) (fun i _=>n-(intOf i).toNat)
 case atStart=>exact⟨0,qAQ _,rfl,by simp,qAJ _ _⟩
 case round=>
  obtain⟨k,hk,rfl,hall,hbel⟩:=hrel;refine jQ ?_;intro HA HB hs;clear hall hbel
  by_cases hlt:k<n
  · skip
    refine zZ ?_;intro x hx hmem;obtain⟨a,cs,rfl,hab,hc,hr⟩:=HS.out.at hx;have HX:=qAF hx;clear hx;have HR:=qAF hr;obtain⟨p0,rfl,-,-,⟨A4,d4,e4,-⟩⟩:=hr;simp only[List.cons.injEq,and_true] at e4;subst e4;refine jE ?_;intro c0 c1;rw[qAL a (k*3) 1 (by omega)] at c1;refine jp ?_;intro c2;rw[qAL a (k*3) 2 (by omega)] at c2;have HP:Hid (∀w1,Below w.heap.size w w1→Calls Try.prog 33 #[.agg #[.slice A4 x.args.length d4,.int .i64 x.ret.1,.int .i64 x.ret.2]] w1 (Tells (g x) w1)):=fun w1 hb=>HP0.out w1 [.slice A4 x.args.length d4,.int .i64 x.ret.1,.int .i64 x.ret.2] x hb hmem (impL.wide (impL.keep HR.out fun b hb1=>hb.block b hb1) fun b hb1=>qAG hb1 hb.size);clear hc;have hk0:0≤(k:Int):=by omega
    cases hg:g x
    · rw[hg] at HP
      have HG:=qAF hg;clear hg
      go_wp2_with (first
       |(go_at_call 33
         refine(HP.out _ HB.out).mono ?_;rintro e w2 ⟨rfl,hb2⟩;refine jn ?_;intro Hb2;clear hb2))
      exact qm
    · rw[hg] at HP
      refine qAD ?_;intro e E;clear e hg
      go_wp2_with (first
       |(go_at_call 33
         refine(HP.out _ HB.out).mono ?_;rintro e w2 ⟨rfl,hb2⟩;refine jn ?_;intro Hb2;clear hb2))
      exact zB
  · exact qa
theorem qEZ (A:Option Addr) (n c:Nat) (xs:List Imp) (g:Imp→Bool) (w:World) (hl:xs.length=n) (h:Sq impL (·<w.heap.size) w A xs) (hn2:n≤9223372036854775807)
 (hG:∀(w1:World) (cs:List Value) (x:Imp),Below w.heap.size w w1→x∈xs→impL.R (·<w1.heap.size) w1 cs x→Calls Try.prog 33 #[vAgg cs] w1 (Tells (g x) w1)):
 Calls Try.prog 32 #[.slice A n c,.func (.func 33) #[] #[]] w (Tells (xs.any g) w):=by
 have HC:=qAF (qHN A n c xs g w hl h hn2 hG);clear hl h hG;generalize xs.any g=ab at*
 go_enter Try.func32,Try.ntmps32
 go_wp2_with (first|(go_at_call 53;refine HC.out.mono ?_;rintro e w1 ⟨k,rfl,hk,hb⟩;have HB:=qAF hb;have HK:=qAF hk;clear hb hk))
 go_ret;exact⟨by rw[←HK.out];rfl,HB.out⟩
def Errs (n:Int) (w:World) (e:Ending) (w':World):Prop:=e= .returned (.int .i64 n)∧Below w.heap.size w w'
theorem qHX (cs:List Value) (x:Mod) (w:World) (h:modL.R (·<w.heap.size) w cs x):Calls Try.prog 19 #[vAgg cs] w (Errs (checkN x) w):=by
 have TE:Hid (∀w1,Below w.heap.size w w1→Calls Try.prog 25 #[vAgg cs] w1 (Encodes x w1)):=fun w1 hb=>qGG cs x w1 (qA0 h hb);obtain⟨_,_,_,_,_,rfl,⟨A0,d0,e0,l0,m0,s0⟩,⟨A1,d1,e1,l1,m1,s1⟩,⟨A2,d2,e2,l2,m2,s2⟩,⟨A3,d3,e3,-⟩,⟨A4,d4,e4,-⟩⟩:=h;simp only[List.cons.injEq,and_true] at e0 e1 e2 e3 e4;subst e0 e1 e2 e3 e4;refine zd ?_;intro n0 h0 n1 h1 n2 h2;refine jo ?_;intro n3 h3 n4 h4;rw[h0,h1,h2,h3,h4] at TE⊢;unfold maxLen at m0 m1 m2;rw[h0] at l0;rw[h1] at l1;rw[h2] at l2;have TE2:Hid (∀w1,Below w.heap.size w w1→Calls Try.prog 25 #[.agg #[.slice A0 n0 d0,.slice A1 n1 d1,.slice A2 n2 d2,.slice A3 n3 d3,.slice A4 n4 d4]] w1 (Encodes x w1)):=TE.out;clear TE
 show Calls Try.prog 19 #[.agg #[.slice A0 n0 d0,.slice A1 n1 d1,.slice A2 n2 d2,.slice A3 n3 d3,.slice A4 n4 d4]] w (Errs (checkN x) w)
 refine jh ?_;intro HB0;refine ze ?_;intro HC0
 cases hf:fitB x
 · have HF:=qAF hf
   have HN:=qAF (qCG hf);generalize checkN x=cn at*;clear hf s0 s1 s2 h0 h1 h2 h3 h4
   go_enter Try.func19,Try.ntmps19
   go_wp2_with (first
    |(go_at_call 25
      refine(TE2.out _ (HB0.out _)).mono ?_;rintro e w1 ⟨hb1,⟨h1,rfl⟩|⟨h1,h2⟩⟩;rotate_left
      · rw[HF.out] at h1
        cases h1
      refine jX ?_;intro HB1;clear hb1 h1))
   go_ret;exact⟨by rw[HN.out];rfl,HB1.out⟩
 · have HF:=qAF hf
   have hF:=qAW.1 hf;have T1:Hid (∀w1 (B:Nat),Below w.heap.size w w1→C5 B (.slice A0 n0 d0) (.slice A1 n1 d1) (.slice A2 n2 d2) (.slice A3 n3 d3) (.slice A4 n4 d4) w1→Calls Try.prog 31 #[.slice A1 n1 d1,.func (.func 26) #[] #[.pointer (some ⟨B,0,none⟩)]] w1 (Tells (x.funcs.any (badFn x)) w1)):=fun w1 B hb hc=>
    qEa A1 n1 d1 x.funcs (badFn x) ⟨B,0,none⟩ w1 h1 ((s1.keep fun b hb1=>hb.block b hb1).wide fun b hb1=>qAG hb1 hb.size) (by omega) fun w2 cs y hb2 hy hr=>by
     have hb3:Below w.heap.size w w2:=hb.trans (hb2.mono hb.size);exact qGK A0 A1 A2 A3 A4 n0 n1 n2 n3 n4 d0 d1 d2 d3 d4 x B y w2 h0 h1 h2 h3 h4 (by omega) ((s0.keep fun b hb1=>hb3.block b hb1).wide fun b hb1=>qAG hb1 hb3.size) (hc.below hb2 (qAO w1 _ hc.1)) cs hr (by rw[←h0];exact hF.funcs y hy)
   have T2:Hid (∀w1,Below w.heap.size w w1→Calls Try.prog 32 #[.slice A2 n2 d2,.func (.func 33) #[] #[]] w1 (Tells (x.imps.any badImp) w1)):=fun w1 hb=>
    qEZ A2 n2 d2 x.imps badImp w1 h2 ((s2.keep fun b hb1=>hb.block b hb1).wide fun b hb1=>qAG hb1 hb.size) (by omega) fun w2 cs y _ _ hr=>qCu y w2 cs hr
   have HO:Hid (badM x=(x.funcs.any (badFn x) || x.imps.any badImp)):=rfl;have HN:Hid (checkN x=if badM x=true then 1 else 0):=by show checkN x=_;simp[checkN,hf]
   generalize checkN x=cn at*;generalize badM x=bm at*;generalize x.funcs.any (badFn x)=b1 at*;generalize x.imps.any badImp=b2 at*;clear hf hF s0 s1 s2 h0 h1 h2 h3 h4
   cases b1
   case' false=>cases b2
   all_goals
    go_enter Try.func19,Try.ntmps19
    go_wp2_with (first
     |(go_at_call 25
       refine(TE2.out _ (HB0.out _)).mono ?_;rintro e w1 ⟨hb1,⟨h1,h2⟩|⟨h1,u,rfl,hown⟩⟩
       · rw[HF.out] at h1
         cases h1
       refine jX ?_;intro HB1;have HC1:=qAF (HC0.out.below hb1 (by simp));have hs1:w.heap.size<w1.heap.size:=q6;obtain⟨A5,c5,rfl,-,-,-,-⟩:=qAh hown;obtain⟨x0,x1,x2,x3,x4⟩:=HC1.out;clear hb1 h1 hown)
     |(go_at_call 31
       refine(T1.out _ _ HB1.out HC1.out).mono ?_;rintro e w2 ⟨rfl,hb2⟩;refine jU ?_;intro HB2;obtain⟨y0,y1,y2,y3,y4⟩:=HC1.out.below hb2 hs1;clear hb2)
     |(go_at_call 32
       refine(T2.out _ HB2.out).mono ?_;rintro e w3 ⟨rfl,hb3⟩;have HB3:=qAF (HB2.out.trans (hb3.mono HB2.out.size));clear hb3))
    go_ret
    first|exact⟨by rw[HN.out,HO.out];rfl,HB3.out⟩|exact⟨by rw[HN.out,HO.out];rfl,HB2.out⟩
def Flows (r:Int×List Typ×List Int) (w:World) (e:Ending) (w':World):Prop:=
 Below w.heap.size w w'∧∃v u,e= .returned (.tuple #[v,u,.int .i64 r.1])∧w'.ownsRow w.heap.size 50 2 v r.2.1.length (T2 r.2.1)∧w'.ownsRow w.heap.size 3 1 u r.2.2.length (Is r.2.2)∧(∀b,v.ownBlock=some b→u.ownBlock≠some b)∧A64 r.2.1
theorem qEm {b b' ty k n:Nat} {v:Value} {xs:List Value} (h:w.ownsRow b ty k v n xs) (hb:b'≤b):w.ownsRow b' ty k v n xs:=by
 refine⟨h.1,?_⟩;rcases h.2 with h|⟨g',cap,cur,e,hb2,rest⟩
 · exact .inl h
 · exact .inr ⟨g',cap,cur,e,qAf hb hb2,rest⟩
theorem qDa {er:Int} {t:List Typ} {l:List Int} {w':World} {e:Ending} (h:Flows (er,t,l) w e w'):Below w.heap.size w w'∧∃v u,e= .returned (.tuple #[v,u,.int .i64 er])∧w'.ownsRow w.heap.size 50 2 v t.length (T2 t)∧w'.ownsRow w.heap.size 3 1 u l.length (Is l)∧A64 t:=by
 obtain⟨h1,v,u,h2,h3,h4,-,h5⟩:=h;exact⟨h1,v,u,h2,h3,h4,h5⟩
theorem qBM {er:Int} {w':World} (h:Below w.heap.size w w'):Flows (er,[],[]) w (.returned (.tuple #[.slice none 0 0,.slice none 0 0,.int .i64 er])) w':=
 ⟨h,_,_,rfl,⟨rfl,.inl ⟨rfl,rfl⟩⟩,⟨rfl,.inl ⟨rfl,rfl⟩⟩,(fun b hb=>by cases hb),A64.nil⟩
theorem qHU {fi:Int} (h:checkN x≠0):flowB x fi pc ts=(1,[],[]):=by simp[flowB,h]
theorem qGD {fi:Int} (h:hasB x.funcs.length fi=false):flowB x fi pc ts=(1,[],[]):=by
 simp[hasB] at h;unfold flowB;split
 · rfl
 · rename_i hc
   rw[List.getElem?_eq_none (by omega)]
theorem qGC {j:Nat} {fn:Fn} (hf:x.funcs[j]? =some fn) (h:hasB fn.code.length pc=false):flowB x (j:Int) pc ts=(1,[],[]):=by
 simp[hasB] at h;unfold flowB;split
 · rfl
 · rename_i hc
   simp only[Int.toNat_natCast,hf];rw[List.getElem?_eq_none (by omega)]
theorem qDc {j p:Nat} {fn:Fn} {i:Ins} (hc:checkN x=0) (hf:x.funcs[j]? =some fn) (hp:fn.code[p]? =some i):flowB x (j:Int) (p:Int) ts=insB8 x fn i p ts:=by
 simp[flowB,hc,hf,hp]
 omega
end Go.Proofs.Ytelceoecekfamaa
