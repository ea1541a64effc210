/-
Ipt Fi
-/
import Derived.Test.YtgdbhanhmenmfaaGreatQ02
import Derived.Test.YtgdbhanhmenmfaaGreatQ03
import Derived.Test.YtgdbhanhmenmfaaGreatQ05
set_option linter.unusedSimpArgs false
set_option linter.unusedVariables false
set_option maxRecDepth 100000
set_option maxHeartbeats 1000000
namespace Go.Proofs.YtgdbhanhmenmfaaGreat
open Go.RowKit
theorem qHE:wid 1=1:=by decide
theorem qKK (o:Nat) (h:o<256):fb o 1=[o]:=by simp[fb];omega
theorem qLp (op a b:Int) (w:World) (h:goodI op a b=false):
 Calls Tryz.prog 183 #[.agg #[.int .i64 op,.int .i64 a,.int .i64 b]] w fun e w'=>e= .returned (.slice none 0 0)∧Below w.heap.size w w':=by
 unfold goodI at h;have AR:=qBK (fun w=>qDB op w);obtain⟨n,hn⟩:∃n,argN op=n:=⟨_,rfl⟩;rw[hn] at h AR;have FT:=qBK (fun w=>qFM n a b w);clear hn
 by_cases h0:n<0
 · clear h
   go_enter Tryz.func183,Tryz.ntmps183
   go_wp2_with (first
    |(go_at_call 233
      refine(AR.out _).mono ?_;rintro e w1 ⟨rfl,rfl⟩))
   go_ret;exact⟨rfl,((qBO _ _).alloc (qBL _) _).alloc (by simp) _⟩
 · have hf:fitN n a b=false:=by
    rw[decide_eq_true (by omega)] at h;simpa using h
   rw[hf] at FT;clear hf h
   go_enter Tryz.func183,Tryz.ntmps183
   go_wp2_with (first
    |(go_at_call 233
      refine(AR.out _).mono ?_;rintro e w1 ⟨rfl,rfl⟩)
    |(go_at_call 234
      refine(FT.out _).mono ?_;rintro e w2 ⟨rfl,hb2⟩;have HB2:=qBK hb2;clear hb2))
   go_ret;exact⟨rfl,(((qBO _ _).alloc (qBL _) _).alloc (by simp) _).trans (HB2.out.mono qK)⟩
theorem arr_new (w:World) (o:Obj) (t:TypeId) (cs:Array Value):Blk ((w.alloc o).alloc (.cells cs t)) (w.heap.size+1) t cs:=by
 have:=heap_alloc_new (w.alloc o) (.cells cs t);simpa[Blk] using this
theorem iput_0 (o x y:Nat) (w:World) (h:goodI o x y=true) (hn:argN o=0):
 Calls Tryz.prog 183 #[.agg #[.int .i64 (o:Nat),.int .i64 (x:Nat),.int .i64 (y:Nat)]] w fun e w'=>∃u,e= .returned u∧w'.ownsRow w.heap.size 5 1 u (insB o x y).length (Bs (insB o x y))∧Below w.heap.size w w':=by
 have AR:=qBK (fun w=>qDB o w);rw[hn] at AR;have FT:=qBK (fun w=>qFM 0 x y w);have hf:fitN 0 x y=true:=by
  unfold goodI at h;rw[hn] at h;simpa using h
 rw[hf] at FT;obtain⟨o',x',y',eo,ex,ey,ho,hx,hy,-⟩:=qBm h;obtain rfl:o=o':=by omega
 obtain rfl:x=x':=by omega
 obtain rfl:y=y':=by omega
 have HE:Hid (insB o x y=[o]++bodyB 0 x y):=by
  show insB o x y=[o]++bodyB 0 x y
  rw[qCK h,hn]
  rfl
 refine jQ ?_;intro HO HO64 HX64 HY64 HL1 HL2;clear hf hn h eo ex ey
 go_enter Tryz.func183,Tryz.ntmps183
 go_wp2_with (first
  |(go_at_call 233
    refine(AR.out _).mono ?_;rintro e w1 ⟨rfl,rfl⟩)
  |(go_at_call 234
    refine(FT.out _).mono ?_;rintro e w2 ⟨rfl,hb2⟩;refine jN ?_;intro HB2 hk k0 hs2 HA2;simp at k0;clear hb2 hk)
  |(go_at_call 184
    refine(qEE o 1 w2 HO64.out).mono ?_;rintro e w3 ⟨u3,rfl,hown3,hb3⟩;rw[qHE,qKK o HO.out] at hown3;refine qAI ?_;intro HO3 HB3 HA3 a30;simp at a30;clear hown3 hb3))
 refine wp_loop_rounds 3 ?_;rw[rounds_succ]
 go_wp2_with fail
 go_ret;have e:insB o x y=[o]:=by rw[HE.out];simp[bodyB]
 have el:(insB o x y).length=1:=by rw[e];simp;try omega
 rw[el,e];exact⟨_,rfl,qC5 HO3.out HB2.out.size,HB2.out.trans (HB3.out.mono HB2.out.size)⟩
theorem iput_1 (o x y:Nat) (w:World) (h:goodI o x y=true) (hn:argN o=1):
 Calls Tryz.prog 183 #[.agg #[.int .i64 (o:Nat),.int .i64 (x:Nat),.int .i64 (y:Nat)]] w fun e w'=>∃u,e= .returned u∧w'.ownsRow w.heap.size 5 1 u (insB o x y).length (Bs (insB o x y))∧Below w.heap.size w w':=by
 have AR:=qBK (fun w=>qDB o w);rw[hn] at AR;have FT:=qBK (fun w=>qFM 1 x y w);have hf:fitN 1 x y=true:=by
  unfold goodI at h;rw[hn] at h;simpa using h
 rw[hf] at FT;obtain⟨o',x',y',eo,ex,ey,ho,hx,hy,-⟩:=qBm h;obtain rfl:o=o':=by omega
 obtain rfl:x=x':=by omega
 obtain rfl:y=y':=by omega
 have HE:Hid (insB o x y=[o]++bodyB 1 x y):=by
  show insB o x y=[o]++bodyB 1 x y
  rw[qCK h,hn]
  rfl
 refine jQ ?_;intro HO HO64 HX64 HY64 HL1 HL2;clear hf hn h eo ex ey
 go_enter Tryz.func183,Tryz.ntmps183
 go_wp2_with (first
  |(go_at_call 233
    refine(AR.out _).mono ?_;rintro e w1 ⟨rfl,rfl⟩)
  |(go_at_call 234
    refine(FT.out _).mono ?_;rintro e w2 ⟨rfl,hb2⟩;refine jN ?_;intro HB2 hk k0 hs2 HA2;simp at k0;clear hb2 hk)
  |(go_at_call 184
    refine(qEE o 1 w2 HO64.out).mono ?_;rintro e w3 ⟨u3,rfl,hown3,hb3⟩;rw[qHE,qKK o HO.out] at hown3;refine qAI ?_;intro HO3 HB3 HA3 a30;simp at a30;clear hown3 hb3))
 refine wp_loop_rounds 3 ?_;rw[rounds_succ]
 go_wp2_with (first
  |(go_at_call 178
    refine(qCD x w3 HX64.out).mono ?_;rintro e w4 ⟨u4,rfl,hown4,hb4⟩;obtain⟨A4,c4,rfl,-,-,-,hY4⟩:=qBu hown4;have HY4:=qBK hY4;have HO4:=qBK (qCa HO3.out hb4 (qBL _));refine qAt ?_;intro HB4;have HS4:=qBK HB4.out.size;clear hown4 hY4 hb4)
  |(at_builtin
    refine qBr _ rfl (.tmp 31) (.tmp 36) rfl w2.heap.size u3 1 [o] rfl HO4.out A4 (vb x).length c4 (vb x) rfl rfl _ HY4.out HL1.out HS4.out ?_;intro v5 w5 hown5 hg5 _;refine qA5 ?_;intro HO5 HB5 HA5 a51;simp at a51;clear hown5 hg5))
 rw[rounds_succ]
 go_wp2_with fail
 go_ret;have e:insB o x y=[o]++vb x:=by rw[HE.out];simp[bodyB]
 have el:(insB o x y).length=1+(vb x).length:=by rw[e];simp;try omega
 rw[el,e];exact⟨_,rfl,qC5 HO5.out HB2.out.size,HB2.out.trans (HB5.out.mono HB2.out.size)⟩
theorem iput_2 (o x y:Nat) (w:World) (h:goodI o x y=true) (hn:argN o=2):
 Calls Tryz.prog 183 #[.agg #[.int .i64 (o:Nat),.int .i64 (x:Nat),.int .i64 (y:Nat)]] w fun e w'=>∃u,e= .returned u∧w'.ownsRow w.heap.size 5 1 u (insB o x y).length (Bs (insB o x y))∧Below w.heap.size w w':=by
 have AR:=qBK (fun w=>qDB o w);rw[hn] at AR;have FT:=qBK (fun w=>qFM 2 x y w);have hf:fitN 2 x y=true:=by
  unfold goodI at h;rw[hn] at h;simpa using h
 rw[hf] at FT;obtain⟨o',x',y',eo,ex,ey,ho,hx,hy,-⟩:=qBm h;obtain rfl:o=o':=by omega
 obtain rfl:x=x':=by omega
 obtain rfl:y=y':=by omega
 have HE:Hid (insB o x y=[o]++bodyB 2 x y):=by
  show insB o x y=[o]++bodyB 2 x y
  rw[qCK h,hn]
  rfl
 refine jQ ?_;intro HO HO64 HX64 HY64 HL1 HL2;clear hf hn h eo ex ey
 go_enter Tryz.func183,Tryz.ntmps183
 go_wp2_with (first
  |(go_at_call 233
    refine(AR.out _).mono ?_;rintro e w1 ⟨rfl,rfl⟩)
  |(go_at_call 234
    refine(FT.out _).mono ?_;rintro e w2 ⟨rfl,hb2⟩;refine jN ?_;intro HB2 hk k0 hs2 HA2;simp at k0;clear hb2 hk)
  |(go_at_call 184
    refine(qEE o 1 w2 HO64.out).mono ?_;rintro e w3 ⟨u3,rfl,hown3,hb3⟩;rw[qHE,qKK o HO.out] at hown3;refine qAI ?_;intro HO3 HB3 HA3 a30;simp at a30;clear hown3 hb3))
 refine wp_loop_rounds 3 ?_;rw[rounds_succ]
 go_wp2_with (first
  |(go_at_call 178
    refine(qCD x w3 HX64.out).mono ?_;rintro e w4 ⟨u4,rfl,hown4,hb4⟩;obtain⟨A4,c4,rfl,-,-,-,hY4⟩:=qBu hown4;have HY4:=qBK hY4;have HO4:=qBK (qCa HO3.out hb4 (qBL _));refine qAt ?_;intro HB4;have HS4:=qBK HB4.out.size;clear hown4 hY4 hb4)
  |(at_builtin
    refine qBr _ rfl (.tmp 31) (.tmp 36) rfl w2.heap.size u3 1 [o] rfl HO4.out A4 (vb x).length c4 (vb x) rfl rfl _ HY4.out HL1.out HS4.out ?_;intro v5 w5 hown5 hg5 _;refine qA5 ?_;intro HO5 HB5 HA5 a51;simp at a51;clear hown5 hg5))
 rw[rounds_succ]
 go_wp2_with (first
  |(go_at_call 178
    have hp:=HO5.out;clear hp;refine(qCD y w5 HY64.out).mono ?_;rintro e w6 ⟨u6,rfl,hown6,hb6⟩;obtain⟨A6,c6,rfl,-,-,-,hY6⟩:=qBu hown6;have HY6:=qBK hY6;have HO6:=qBK (qCa HO5.out hb6 (qBL _));have HB6:=qBK (HB5.out.trans (hb6.mono HB5.out.size));have HS6:=qBK HB6.out.size;clear hown6 hY6 hb6)
  |(at_builtin
    have hp:=HO6.out;clear hp;refine qBr _ rfl (.tmp 31) (.tmp 36) rfl w2.heap.size v5 (1+(vb x).length) ([o]++vb x) rfl HO6.out A6 (vb y).length c6 (vb y) rfl rfl _ HY6.out HL2.out HS6.out ?_;intro v7 w7 hown7 hg7 _;have HO7:=qBK hown7;have HB7:=qBK (HB6.out.grown hg7 HS6.out (fun i hi=>(HO6.out.lt i hi).1));clear hown7 hg7))
 rw[rounds_succ]
 go_wp2_with fail
 go_ret;have e:insB o x y=[o]++vb x++vb y:=by rw[HE.out];simp[bodyB]
 have el:(insB o x y).length=1+(vb x).length+(vb y).length:=by rw[e];simp;try omega
 rw[el,e];exact⟨_,rfl,qC5 HO7.out HB2.out.size,HB2.out.trans (HB7.out.mono HB2.out.size)⟩
theorem qIq (op a b:Int) (w:World):
 Calls Tryz.prog 183 #[.agg #[.int .i64 op,.int .i64 a,.int .i64 b]] w fun e w'=>∃u,e= .returned u∧w'.ownsRow w.heap.size 5 1 u (insB op a b).length (Bs (insB op a b))∧Below w.heap.size w w':=by
 by_cases h:goodI op a b=true
 · obtain⟨o,x,y,rfl,rfl,rfl,-,-,-,h0,-⟩:=qBm h
   rcases qDf o with hn|hn|hn|hn
   · omega
   · exact iput_0 o x y w h hn
   · exact iput_1 o x y w h hn
   · exact iput_2 o x y w h hn
 · rw[qEA h]
   refine(qLp op a b w qy).mono ?_;rintro e w' ⟨rfl,hb⟩;exact⟨_,rfl,own_nil _ _,hb⟩
structure Env (b g t r:Nat) (w:World):Prop where
 recs:∃A c,w.cell? ⟨b,0,none⟩=some (.slice A r c)
 good:w.cell? ⟨g,0,none⟩=some (.func (.func 164) #[] #[.pointer (some ⟨b,0,none⟩)])
 types:w.cell? ⟨t,0,none⟩=some (.func (.func 166) #[] #[.pointer (some ⟨g,0,none⟩)])
theorem Env.below {b g t r:Nat} {w w':World} (h:Env b g t r w) (hb:Below w.heap.size w w'):Env b g t r w':=by
 obtain⟨A,c,h1⟩:=h.recs;exact⟨⟨A,c,(hb.cell (qBR w _ h1)).trans h1⟩,(hb.cell (qBR w _ h.good)).trans h.good,(hb.cell (qBR w _ h.types)).trans h.types⟩
theorem qF0 (b:Nat) (x:Typ) (r:Nat) (w:World) (h:∃A c,w.cell? ⟨b,0,none⟩=some (.slice A r c)) (cs:List Value) (hr:typL.R (·<w.heap.size) w cs x):
 Calls Tryz.prog 164 #[vAgg cs,.pointer (some ⟨b,0,none⟩)] w (Tells (goodT r x) w):=by
 obtain⟨A,c,h1⟩:=h;obtain⟨rfl,i1,i2⟩:=hr
 show Calls Tryz.prog 164 #[.agg #[.int .i64 x.1,.int .i64 x.2],.pointer (some ⟨b,0,none⟩)] w (Tells (goodT r x) w)
 have hlt:=qBR w _ h1;simp only at hlt;have hne:b≠w.heap.size:=by omega
 have HC:Hid (∀w,Calls Tryz.prog 165 #[.agg #[.int .i64 x.1,.int .i64 x.2],.int .i64 (r:Int)] w (Tells (goodT r x) w)):=fun w=>kgood x.1 x.2 r w;generalize goodT r x=gd at*
 go_enter Tryz.func164,Tryz.ntmps164
 go_wp2_with (first|(go_at_call 165;refine(HC.out _).mono ?_;rintro e w1 ⟨rfl,hb⟩))
 go_ret;exact⟨rfl,((qBO _ _).alloc (qBL _) _).trans (hb.mono (by simp))⟩
theorem qD1 (b g:Nat) (A:Option Addr) (n c:Nat) (ts:List Typ) (most:Int) (r:Nat) (w:World) (hrec:∃A c,w.cell? ⟨b,0,none⟩=some (.slice A r c))
 (hg:w.cell? ⟨g,0,none⟩=some (.func (.func 164) #[] #[.pointer (some ⟨b,0,none⟩)])) (hl:ts.length=n) (h:Sq typL (·<w.heap.size) w A ts) (hn:n≤9223372036854775807) (hm: -9223372036854775807≤most∧most≤1000):
 Calls Tryz.prog 166 #[.slice A n c,.int .i64 most,.pointer (some ⟨g,0,none⟩)] w (Tells (witB 0 most (goodT r) ts) w):=by
 have HC:Hid (Calls Tryz.prog 167 #[.slice A n c,.int .i64 0,.int .i64 most,.func (.func 164) #[] #[.pointer (some ⟨b,0,none⟩)]] w (Tells (witB 0 most (goodT r) ts) w)):=
  qJN A n c ts 0 most (goodT r) ⟨b,0,none⟩ w hl h hn (by omega) ⟨by omega,hm.2⟩ fun w1 cs x hb _ hr=>by
   obtain⟨A',c',h1⟩:=hrec;exact qF0 b x r w1 ⟨A',c',(hb.cell (qBR w _ h1)).trans h1⟩ cs hr
 clear hrec hl h
 go_enter Tryz.func166,Tryz.ntmps166
 go_wp2_with (first|(go_at_call 167;refine HC.out.mono ?_;rintro e w1 ⟨rfl,hb⟩))
 go_ret;exact⟨rfl,hb⟩
theorem qJk (b g t r:Nat) (x:List Typ) (w:World) (he:Env b g t r w) (cs:List Value) (hr:tysL.R (·<w.heap.size) w cs x):
 Calls Tryz.prog 168 #[vOne cs,.pointer (some ⟨t,0,none⟩)] w (Tells (recOk r x) w):=by
 obtain⟨A,c,rfl,l1,l2,l3⟩:=hr
 show Calls Tryz.prog 168 #[.slice A x.length c,.pointer (some ⟨t,0,none⟩)] w (Tells (recOk r x) w)
 have ht:=he.types;obtain⟨n,hn⟩:∃n,x.length=n:=⟨_,rfl⟩;have hn2:n≤9223372036854775807:=by unfold maxLen at l2;omega
 have HC:Hid (Calls Tryz.prog 166 #[.slice A n c,.int .i64 6,.pointer (some ⟨g,0,none⟩)] w (Tells (recOk r x) w)):=qD1 b g A n c x 6 r w he.recs he.good hn l3 hn2 (by omega);rw[hn];clear hn l1 l2 l3 he;generalize recOk r x=gd at*
 go_enter Tryz.func168,Tryz.ntmps168
 go_wp2_with (first|(go_at_call 166;refine HC.out.mono ?_;rintro e w1 ⟨rfl,hb⟩))
 go_ret;exact⟨rfl,hb⟩
theorem qI0 (x:Ins) (w:World) (cs:List Value) (hr:insL.R (·<w.heap.size) w cs x):Calls Tryz.prog 171 #[vAgg cs] w (Tells (goodIn x) w):=by
 obtain⟨rfl,-⟩:=hr
 show Calls Tryz.prog 171 #[.agg #[.int .i64 x.1,.int .i64 x.2.1,.int .i64 x.2.2]] w (Tells (goodIn x) w)
 have HC:Hid (∀w,Calls Tryz.prog 183 #[.agg #[.int .i64 x.1,.int .i64 x.2.1,.int .i64 x.2.2]] w (Puts (iB x) w)):=fun w=>qIq x.1 x.2.1 x.2.2 w;have hlen:=qKB x;have hd:Hid (goodIn x=decide (0<(iB x).length)):=by
  show goodIn x=decide (0<(iB x).length)
  cases hg:goodIn x
  · have e:iB x=[]:=qEA (by rw[show goodI x.1 x.2.1 x.2.2=false from hg];simp)
    rw[e];simp
  · have:=qNw (op:=x.1) (a:=x.2.1) (b:=x.2.2) hg
    exact(decide_eq_true this).symm
 obtain⟨y,hy⟩:∃y,iB x=y:=⟨_,rfl⟩;rw[hy] at HC hd hlen;generalize goodIn x=gd at*;clear hy;generalize x.1=q1 at*;generalize x.2.1=q2 at*;generalize x.2.2=q3 at*
 go_enter Tryz.func171,Tryz.ntmps171
 go_wp2_with (first|(go_at_call 183;refine(HC.out _).mono ?_;rintro e w1 ⟨u,rfl,hown,hb⟩;obtain⟨A2,c2,rfl,-,-,-,-⟩:=qBu hown;clear hown;have HB:=qBK hb;clear hb))
 go_ret;refine⟨?_,((qBO _ _).alloc (qBL _) _).trans (HB.out.mono (by simp))⟩;rw[hd.out];simp
theorem qGH (x:List Nat) (w:World) (cs:List Value) (hr:strL.R (·<w.heap.size) w cs x):Calls Tryz.prog 177 #[vOne cs] w (Tells (shortB x) w):=by
 obtain⟨s,rfl,rfl⟩:=hr
 show Calls Tryz.prog 177 #[.string s] w (Tells (shortB (strB s)) w)
 have hd:Hid (shortB (strB s)=decide (s.size≤32)):=by show shortB (strB s)=_;rw[shortB,qFZ]
 generalize shortB (strB s)=gd at*
 go_enter Tryz.func177,Tryz.ntmps177
 go_wp2_with fail
 go_ret;refine⟨?_,qBO _ _⟩;rw[hd.out];simp
 omega
end Go.Proofs.YtgdbhanhmenmfaaGreat
