/-
Ift Ipt Fi
-/
import Derived.Test.YtconajaecpgjgaaGreatT01
import Derived.Test.YtconajaecpgjgaaGreatT02
import Derived.LoopN
set_option linter.unusedSimpArgs false
set_option linter.unusedVariables false
set_option maxRecDepth 100000
set_option maxHeartbeats 2000000
namespace Go.Proofs.YtconajaecpgjgaaGreat
open Go.RowKit
theorem qi {P:Prop} (h:P:=by
 rw[decide_eq_false (by omega)]
 go_enter Tryz.func157,Tryz.ntmps157
 go_wp2_with fail
 refine wp_loop_rounds 3 ?_
 rw[rounds_succ]
 go_wp2_with fail
 rw[rounds_succ]
 exact qJ):P:=h
theorem qv {P:Prop} (h:P:=by
 rw[decide_eq_false (by omega)]
 go_enter Tryz.func157,Tryz.ntmps157
 go_wp2_with fail
 refine wp_loop_rounds 3 ?_
 rw[rounds_succ]
 exact qJ):P:=h
theorem zS {P:Prop} (h:P:=by
 rw[rounds_succ]
 go_wp2_with fail
 rw[rounds_succ]
 exact qJ):P:=h
theorem jH {P:Prop} (h:P:=by
 rw[decide_eq_true (by omega)]
 go_enter Tryz.func157,Tryz.ntmps157
 go_wp2_with fail
 refine wp_loop_rounds 3 ?_
 rw[rounds_succ]
 go_wp2_with fail
 exact zS):P:=h
theorem jp {P:Prop} (h:P:=by
 go_ret
 exact⟨rfl,((qAe _ _).alloc (qAf _) _).alloc (by simp) _⟩):P:=h
theorem qDq (n a b:Int) (w:World):Calls Tryz.prog 157 #[.agg #[.int .i64 a,.int .i64 b],.int .i64 n] w fun e w'=>e= .returned (.bool (fitN n a b))∧Below w.heap.size w w':=by
 have i0:∀w,(Instr.index 189 (.agg #[.int .i64 a,.int .i64 b]) (.int .i64 0)).run Tryz.prog w= .ok (.int .i64 a) w:=fun _=>by kernel_rfl
 have i1:∀w,(Instr.index 189 (.agg #[.int .i64 a,.int .i64 b]) (.int .i64 1)).run Tryz.prog w= .ok (.int .i64 b) w:=fun _=>by kernel_rfl
 unfold fitN
 by_cases h0:0<n
 · rw[if_pos h0]
   by_cases h1:1<n
   · rw[if_pos h1]
     by_cases a0:a<0
     · exact qv
     by_cases a1:255<a
     · exact qv
     by_cases b0:b<0
     · exact qi
     by_cases b1:255<b
     · exact qi
     exact jH
   · rw[if_neg h1]
     by_cases a0:a<0
     · exact qv
     by_cases a1:255<a
     · exact qv
     by_cases b0:b<0
     · exact qi
     by_cases b1:0<b
     · exact qi
     exact jH
 · rw[if_neg h0,if_neg (by omega)]
   have h1:¬1<n:=by omega
   by_cases a0:a<0
   · exact qv
   by_cases a1:0<a
   · exact qv
   by_cases b0:b<0
   · exact qi
   by_cases b1:0<b
   · exact qi
   exact jH
theorem qEt:wid 1=1:=by decide
theorem qGn (o:Nat) (h:o<256):fb o 1=[o]:=by simp[fb];omega
theorem qHc (op a b:Int) (w:World) (h:goodI op a b=false):
 Calls Tryz.prog 143 #[.agg #[.int .i64 op,.int .i64 a,.int .i64 b]] w fun e w'=>e= .returned (.slice none 0 0)∧Below w.heap.size w w':=by
 unfold goodI at h
 have AR:=qAZ (fun w=>qDM op w)
 obtain⟨n,hn⟩:∃n,argN op=n:=⟨_,rfl⟩
 rw[hn] at h AR
 have FT:=qAZ (fun w=>qDq n a b w)
 clear hn
 by_cases h0:n<0
 · clear h
   go_enter Tryz.func143,Tryz.ntmps143
   go_wp2_with (first
    |(go_at_call 156
      refine(AR.out _).mono ?_
      rintro e w1 ⟨rfl,rfl⟩))
   exact jp
 · have hf:fitN n a b=false:=by
    rw[decide_eq_true (by omega)] at h
    simpa using h
   rw[hf] at FT
   clear hf h
   go_enter Tryz.func143,Tryz.ntmps143
   go_wp2_with (first
    |(go_at_call 156
      refine(AR.out _).mono ?_
      rintro e w1 ⟨rfl,rfl⟩)
    |(go_at_call 157
      refine(FT.out _).mono ?_
      rintro e w2 ⟨rfl,hb2⟩
      have HB2:=qAZ hb2
      clear hb2))
   go_ret
   exact⟨rfl,(((qAe _ _).alloc (qAf _) _).alloc (by simp) _).trans (HB2.out.mono qf)⟩
theorem qFI (w:World) (o:Obj) (t:TypeId) (cs:Array Value):Blk ((w.alloc o).alloc (.cells cs t)) (w.heap.size+1) t cs:=by
 have:=heap_alloc_new (w.alloc o) (.cells cs t)
 simpa[Blk] using this
theorem iput_0 (o x y:Nat) (w:World) (h:goodI o x y=true) (hn:argN o=0):
 Calls Tryz.prog 143 #[.agg #[.int .i64 (o:Nat),.int .i64 (x:Nat),.int .i64 (y:Nat)]] w fun e w'=>∃u,e= .returned u∧w'.ownsRow w.heap.size 5 1 u (insB o x y).length (Bs (insB o x y))∧Below w.heap.size w w':=by
 have AR:=qAZ (fun w=>qDM o w)
 rw[hn] at AR
 have FT:=qAZ (fun w=>qDq 0 x y w)
 have hf:fitN 0 x y=true:=by
  unfold goodI at h
  rw[hn] at h
  simpa using h
 rw[hf] at FT
 obtain⟨o',x',y',eo,ex,ey,ho,hx,hy,-⟩:=qBF h
 obtain rfl:o=o':=by omega
 obtain rfl:x=x':=by omega
 obtain rfl:y=y':=by omega
 have HE:Hid (insB o x y=[o]++bodyB 0 x y):=by
  show insB o x y=[o]++bodyB 0 x y
  rw[qBm h,hn]
  rfl
 have HO:Hid (o<256):=by show o<256;omega
 have HO64:Hid (o<B64):=by show o<B64;unfold B64;omega
 have HX64:Hid (x<B64):=by show x<B64;unfold B64;omega
 have HY64:Hid (y<B64):=by show y<B64;unfold B64;omega
 have HL1:Hid (1+(vb x).length≤140737488355328):=by show 1+(vb x).length≤140737488355328;have:=qBu x hx;omega
 have HL2:Hid (1+(vb x).length+(vb y).length≤140737488355328):=by show 1+(vb x).length+(vb y).length≤140737488355328;have:=qBu x hx;have:=qBu y hy;omega
 clear hf hn h eo ex ey
 go_enter Tryz.func143,Tryz.ntmps143
 go_wp2_with (first
  |(go_at_call 156
    refine(AR.out _).mono ?_
    rintro e w1 ⟨rfl,rfl⟩)
  |(go_at_call 157
    refine(FT.out _).mono ?_
    rintro e w2 ⟨rfl,hb2⟩
    have HB2:Hid (Below w.heap.size w w2):=(((qAe _ _).alloc (qAf _) _).alloc (by simp) _).trans (hb2.mono qf)
    have hk:=(hb2.block w.heap.size qf).trans ((qBM _ _ w.heap.size (by simp)).trans (qAz w 65 #[.int .i64 (o:Nat),.int .i64 (x:Nat),.int .i64 (y:Nat)]))
    have k0:=Blk.cell hk 0
    have hs2:w.heap.size+2≤w2.heap.size:=(by have:=hb2.size;simp at this;omega)
    have HA2:=qAZ ((hb2.block (w.heap.size+1) (by simp)).trans (qFI w _ 189 #[.int .i64 (x:Nat),.int .i64 (y:Nat)]))
    simp at k0
    clear hb2 hk)
  |(go_at_call 144
    refine(qC2 o 1 w2 HO64.out).mono ?_
    rintro e w3 ⟨u3,rfl,hown3,hb3⟩
    rw[qEt,qGn o HO.out] at hown3
    have HO3:=qAZ hown3
    have HB3:=qAZ (hb3.mono (qAf w2.heap.size))
    have HA3:=qAZ ((hb3.block (w.heap.size+1) (by omega)).trans HA2.out)
    have a30:=Blk.cell HA3.out 0
    simp at a30
    clear hown3 hb3))
 refine wp_loop_rounds 3 ?_
 rw[rounds_succ]
 go_wp2_with fail
 go_ret
 have e:insB o x y=[o]:=by rw[HE.out];simp[bodyB]
 have el:(insB o x y).length=1:=by rw[e];simp;try omega
 rw[el,e]
 exact⟨_,rfl,qBc HO3.out HB2.out.size,HB2.out.trans (HB3.out.mono HB2.out.size)⟩
theorem iput_1 (o x y:Nat) (w:World) (h:goodI o x y=true) (hn:argN o=1):
 Calls Tryz.prog 143 #[.agg #[.int .i64 (o:Nat),.int .i64 (x:Nat),.int .i64 (y:Nat)]] w fun e w'=>∃u,e= .returned u∧w'.ownsRow w.heap.size 5 1 u (insB o x y).length (Bs (insB o x y))∧Below w.heap.size w w':=by
 have AR:=qAZ (fun w=>qDM o w)
 rw[hn] at AR
 have FT:=qAZ (fun w=>qDq 1 x y w)
 have hf:fitN 1 x y=true:=by
  unfold goodI at h
  rw[hn] at h
  simpa using h
 rw[hf] at FT
 obtain⟨o',x',y',eo,ex,ey,ho,hx,hy,-⟩:=qBF h
 obtain rfl:o=o':=by omega
 obtain rfl:x=x':=by omega
 obtain rfl:y=y':=by omega
 have HE:Hid (insB o x y=[o]++bodyB 1 x y):=by
  show insB o x y=[o]++bodyB 1 x y
  rw[qBm h,hn]
  rfl
 have HO:Hid (o<256):=by show o<256;omega
 have HO64:Hid (o<B64):=by show o<B64;unfold B64;omega
 have HX64:Hid (x<B64):=by show x<B64;unfold B64;omega
 have HY64:Hid (y<B64):=by show y<B64;unfold B64;omega
 have HL1:Hid (1+(vb x).length≤140737488355328):=by show 1+(vb x).length≤140737488355328;have:=qBu x hx;omega
 have HL2:Hid (1+(vb x).length+(vb y).length≤140737488355328):=by show 1+(vb x).length+(vb y).length≤140737488355328;have:=qBu x hx;have:=qBu y hy;omega
 clear hf hn h eo ex ey
 go_enter Tryz.func143,Tryz.ntmps143
 go_wp2_with (first
  |(go_at_call 156
    refine(AR.out _).mono ?_
    rintro e w1 ⟨rfl,rfl⟩)
  |(go_at_call 157
    refine(FT.out _).mono ?_
    rintro e w2 ⟨rfl,hb2⟩
    have HB2:Hid (Below w.heap.size w w2):=(((qAe _ _).alloc (qAf _) _).alloc (by simp) _).trans (hb2.mono qf)
    have hk:=(hb2.block w.heap.size qf).trans ((qBM _ _ w.heap.size (by simp)).trans (qAz w 65 #[.int .i64 (o:Nat),.int .i64 (x:Nat),.int .i64 (y:Nat)]))
    have k0:=Blk.cell hk 0
    have hs2:w.heap.size+2≤w2.heap.size:=(by have:=hb2.size;simp at this;omega)
    have HA2:=qAZ ((hb2.block (w.heap.size+1) (by simp)).trans (qFI w _ 189 #[.int .i64 (x:Nat),.int .i64 (y:Nat)]))
    simp at k0
    clear hb2 hk)
  |(go_at_call 144
    refine(qC2 o 1 w2 HO64.out).mono ?_
    rintro e w3 ⟨u3,rfl,hown3,hb3⟩
    rw[qEt,qGn o HO.out] at hown3
    have HO3:=qAZ hown3
    have HB3:=qAZ (hb3.mono (qAf w2.heap.size))
    have HA3:=qAZ ((hb3.block (w.heap.size+1) (by omega)).trans HA2.out)
    have a30:=Blk.cell HA3.out 0
    simp at a30
    clear hown3 hb3))
 refine wp_loop_rounds 3 ?_
 rw[rounds_succ]
 go_wp2_with (first
  |(go_at_call 138
    refine(qBW x w3 HX64.out).mono ?_
    rintro e w4 ⟨u4,rfl,hown4,hb4⟩
    obtain⟨A4,c4,rfl,-,-,-,hY4⟩:=qA5 hown4
    have HY4:=qAZ hY4
    have HO4:=qAZ (qA4 HO3.out hb4 (qAf _))
    have HB4:=qAZ (HB3.out.trans (hb4.mono HB3.out.size))
    have HS4:=qAZ HB4.out.size
    clear hown4 hY4 hb4)
  |(at_builtin
    refine qA3 _ rfl (.tmp 31) (.tmp 36) rfl w2.heap.size u3 1 [o] rfl HO4.out A4 (vb x).length c4 (vb x) rfl rfl _ HY4.out HL1.out HS4.out ?_
    intro v5 w5 hown5 hg5 _
    have HO5:=qAZ hown5
    have HB5:=qAZ (HB4.out.grown hg5 HS4.out (fun i hi=>(HO4.out.lt i hi).1))
    have HA5:=qAZ ((HB5.out.block (w.heap.size+1) (by omega)).trans HA2.out)
    have a51:=Blk.cell HA5.out 1
    simp at a51
    clear hown5 hg5))
 rw[rounds_succ]
 go_wp2_with fail
 go_ret
 have e:insB o x y=[o]++vb x:=by rw[HE.out];simp[bodyB]
 have el:(insB o x y).length=1+(vb x).length:=by rw[e];simp;try omega
 rw[el,e]
 exact⟨_,rfl,qBc HO5.out HB2.out.size,HB2.out.trans (HB5.out.mono HB2.out.size)⟩
theorem iput_2 (o x y:Nat) (w:World) (h:goodI o x y=true) (hn:argN o=2):
 Calls Tryz.prog 143 #[.agg #[.int .i64 (o:Nat),.int .i64 (x:Nat),.int .i64 (y:Nat)]] w fun e w'=>∃u,e= .returned u∧w'.ownsRow w.heap.size 5 1 u (insB o x y).length (Bs (insB o x y))∧Below w.heap.size w w':=by
 have AR:=qAZ (fun w=>qDM o w)
 rw[hn] at AR
 have FT:=qAZ (fun w=>qDq 2 x y w)
 have hf:fitN 2 x y=true:=by
  unfold goodI at h
  rw[hn] at h
  simpa using h
 rw[hf] at FT
 obtain⟨o',x',y',eo,ex,ey,ho,hx,hy,-⟩:=qBF h
 obtain rfl:o=o':=by omega
 obtain rfl:x=x':=by omega
 obtain rfl:y=y':=by omega
 have HE:Hid (insB o x y=[o]++bodyB 2 x y):=by
  show insB o x y=[o]++bodyB 2 x y
  rw[qBm h,hn]
  rfl
 have HO:Hid (o<256):=by show o<256;omega
 have HO64:Hid (o<B64):=by show o<B64;unfold B64;omega
 have HX64:Hid (x<B64):=by show x<B64;unfold B64;omega
 have HY64:Hid (y<B64):=by show y<B64;unfold B64;omega
 have HL1:Hid (1+(vb x).length≤140737488355328):=by show 1+(vb x).length≤140737488355328;have:=qBu x hx;omega
 have HL2:Hid (1+(vb x).length+(vb y).length≤140737488355328):=by show 1+(vb x).length+(vb y).length≤140737488355328;have:=qBu x hx;have:=qBu y hy;omega
 clear hf hn h eo ex ey
 go_enter Tryz.func143,Tryz.ntmps143
 go_wp2_with (first
  |(go_at_call 156
    refine(AR.out _).mono ?_
    rintro e w1 ⟨rfl,rfl⟩)
  |(go_at_call 157
    refine(FT.out _).mono ?_
    rintro e w2 ⟨rfl,hb2⟩
    have HB2:Hid (Below w.heap.size w w2):=(((qAe _ _).alloc (qAf _) _).alloc (by simp) _).trans (hb2.mono qf)
    have hk:=(hb2.block w.heap.size qf).trans ((qBM _ _ w.heap.size (by simp)).trans (qAz w 65 #[.int .i64 (o:Nat),.int .i64 (x:Nat),.int .i64 (y:Nat)]))
    have k0:=Blk.cell hk 0
    have hs2:w.heap.size+2≤w2.heap.size:=(by have:=hb2.size;simp at this;omega)
    have HA2:=qAZ ((hb2.block (w.heap.size+1) (by simp)).trans (qFI w _ 189 #[.int .i64 (x:Nat),.int .i64 (y:Nat)]))
    simp at k0
    clear hb2 hk)
  |(go_at_call 144
    refine(qC2 o 1 w2 HO64.out).mono ?_
    rintro e w3 ⟨u3,rfl,hown3,hb3⟩
    rw[qEt,qGn o HO.out] at hown3
    have HO3:=qAZ hown3
    have HB3:=qAZ (hb3.mono (qAf w2.heap.size))
    have HA3:=qAZ ((hb3.block (w.heap.size+1) (by omega)).trans HA2.out)
    have a30:=Blk.cell HA3.out 0
    simp at a30
    clear hown3 hb3))
 refine wp_loop_rounds 3 ?_
 rw[rounds_succ]
 go_wp2_with (first
  |(go_at_call 138
    refine(qBW x w3 HX64.out).mono ?_
    rintro e w4 ⟨u4,rfl,hown4,hb4⟩
    obtain⟨A4,c4,rfl,-,-,-,hY4⟩:=qA5 hown4
    have HY4:=qAZ hY4
    have HO4:=qAZ (qA4 HO3.out hb4 (qAf _))
    have HB4:=qAZ (HB3.out.trans (hb4.mono HB3.out.size))
    have HS4:=qAZ HB4.out.size
    clear hown4 hY4 hb4)
  |(at_builtin
    refine qA3 _ rfl (.tmp 31) (.tmp 36) rfl w2.heap.size u3 1 [o] rfl HO4.out A4 (vb x).length c4 (vb x) rfl rfl _ HY4.out HL1.out HS4.out ?_
    intro v5 w5 hown5 hg5 _
    have HO5:=qAZ hown5
    have HB5:=qAZ (HB4.out.grown hg5 HS4.out (fun i hi=>(HO4.out.lt i hi).1))
    have HA5:=qAZ ((HB5.out.block (w.heap.size+1) (by omega)).trans HA2.out)
    have a51:=Blk.cell HA5.out 1
    simp at a51
    clear hown5 hg5))
 rw[rounds_succ]
 go_wp2_with (first
  |(go_at_call 138
    have hp:=HO5.out
    clear hp
    refine(qBW y w5 HY64.out).mono ?_
    rintro e w6 ⟨u6,rfl,hown6,hb6⟩
    obtain⟨A6,c6,rfl,-,-,-,hY6⟩:=qA5 hown6
    have HY6:=qAZ hY6
    have HO6:=qAZ (qA4 HO5.out hb6 (qAf _))
    have HB6:=qAZ (HB5.out.trans (hb6.mono HB5.out.size))
    have HS6:=qAZ HB6.out.size
    clear hown6 hY6 hb6)
  |(at_builtin
    have hp:=HO6.out
    clear hp
    refine qA3 _ rfl (.tmp 31) (.tmp 36) rfl w2.heap.size v5 (1+(vb x).length) ([o]++vb x) rfl HO6.out A6 (vb y).length c6 (vb y) rfl rfl _ HY6.out HL2.out HS6.out ?_
    intro v7 w7 hown7 hg7 _
    have HO7:=qAZ hown7
    have HB7:=qAZ (HB6.out.grown hg7 HS6.out (fun i hi=>(HO6.out.lt i hi).1))
    clear hown7 hg7))
 rw[rounds_succ]
 go_wp2_with fail
 go_ret
 have e:insB o x y=[o]++vb x++vb y:=by rw[HE.out];simp[bodyB]
 have el:(insB o x y).length=1+(vb x).length+(vb y).length:=by rw[e];simp;try omega
 rw[el,e]
 exact⟨_,rfl,qBc HO7.out HB2.out.size,HB2.out.trans (HB7.out.mono HB2.out.size)⟩
theorem qFq (op a b:Int) (w:World):
 Calls Tryz.prog 143 #[.agg #[.int .i64 op,.int .i64 a,.int .i64 b]] w fun e w'=>∃u,e= .returned u∧w'.ownsRow w.heap.size 5 1 u (insB op a b).length (Bs (insB op a b))∧Below w.heap.size w w':=by
 by_cases h:goodI op a b=true
 · obtain⟨o,x,y,rfl,rfl,rfl,-,-,-,h0,-⟩:=qBF h
   rcases qEL o with hn|hn|hn|hn
   · omega
   · exact iput_0 o x y w h hn
   · exact iput_1 o x y w h hn
   · exact iput_2 o x y w h hn
 · rw[qCz h]
   refine(qHc op a b w (by simpa using h)).mono ?_
   rintro e w' ⟨rfl,hb⟩
   exact⟨_,rfl,qG1 _ _,hb⟩
structure Env (b g t r:Nat) (w:World):Prop where
 recs:∃A c,w.cell? ⟨b,0,none⟩=some (.slice A r c)
 good:w.cell? ⟨g,0,none⟩=some (.func (.func 124) #[] #[.pointer (some ⟨b,0,none⟩)])
 types:w.cell? ⟨t,0,none⟩=some (.func (.func 126) #[] #[.pointer (some ⟨g,0,none⟩)])
theorem Env.below {b g t r:Nat} {w w':World} (h:Env b g t r w) (hb:Below w.heap.size w w'):Env b g t r w':=by
 obtain⟨A,c,h1⟩:=h.recs
 exact⟨⟨A,c,(hb.cell (qAn w _ h1)).trans h1⟩,(hb.cell (qAn w _ h.good)).trans h.good,(hb.cell (qAn w _ h.types)).trans h.types⟩
theorem qD8 (b:Nat) (x:Typ) (r:Nat) (w:World) (h:∃A c,w.cell? ⟨b,0,none⟩=some (.slice A r c)) (cs:List Value) (hr:typL.R (·<w.heap.size) w cs x):
 Calls Tryz.prog 124 #[vAgg cs,.pointer (some ⟨b,0,none⟩)] w (Tells (goodT r x) w):=by
 obtain⟨A,c,h1⟩:=h
 obtain⟨rfl,i1,i2⟩:=hr
 show Calls Tryz.prog 124 #[.agg #[.int .i64 x.1,.int .i64 x.2],.pointer (some ⟨b,0,none⟩)] w (Tells (goodT r x) w)
 have hlt:=qAn w _ h1
 simp only at hlt
 have hne:b≠w.heap.size:=by omega
 have HC:Hid (∀w,Calls Tryz.prog 125 #[.agg #[.int .i64 x.1,.int .i64 x.2],.int .i64 (r:Int)] w (Tells (goodT r x) w)):=fun w=>kgood x.1 x.2 r w
 generalize goodT r x=gd at*
 go_enter Tryz.func124,Tryz.ntmps124
 go_wp2_with (first|(go_at_call 125;refine(HC.out _).mono ?_;rintro e w1 ⟨rfl,hb⟩))
 go_ret
 exact⟨rfl,((qAe _ _).alloc (qAf _) _).trans (hb.mono (by simp))⟩
theorem qCr (b g:Nat) (A:Option Addr) (n c:Nat) (ts:List Typ) (most:Int) (r:Nat) (w:World) (hrec:∃A c,w.cell? ⟨b,0,none⟩=some (.slice A r c))
 (hg:w.cell? ⟨g,0,none⟩=some (.func (.func 124) #[] #[.pointer (some ⟨b,0,none⟩)])) (hl:ts.length=n) (h:Sq typL (·<w.heap.size) w A ts) (hn:n≤9223372036854775807) (hm: -9223372036854775807≤most∧most≤1000):
 Calls Tryz.prog 126 #[.slice A n c,.int .i64 most,.pointer (some ⟨g,0,none⟩)] w (Tells (witB 0 most (goodT r) ts) w):=by
 have HC:Hid (Calls Tryz.prog 127 #[.slice A n c,.int .i64 0,.int .i64 most,.func (.func 124) #[] #[.pointer (some ⟨b,0,none⟩)]] w (Tells (witB 0 most (goodT r) ts) w)):=
  qF9 A n c ts 0 most (goodT r) ⟨b,0,none⟩ w hl h hn (by omega) ⟨by omega,hm.2⟩ fun w1 cs x hb _ hr=>by
   obtain⟨A',c',h1⟩:=hrec
   exact qD8 b x r w1 ⟨A',c',(hb.cell (qAn w _ h1)).trans h1⟩ cs hr
 clear hrec hl h
 go_enter Tryz.func126,Tryz.ntmps126
 go_wp2_with (first|(go_at_call 127;refine HC.out.mono ?_;rintro e w1 ⟨rfl,hb⟩))
 go_ret
 exact⟨rfl,hb⟩
theorem qGP (b g t r:Nat) (x:List Typ) (w:World) (he:Env b g t r w) (cs:List Value) (hr:tysL.R (·<w.heap.size) w cs x):
 Calls Tryz.prog 128 #[vOne cs,.pointer (some ⟨t,0,none⟩)] w (Tells (recOk r x) w):=by
 obtain⟨A,c,rfl,l1,l2,l3⟩:=hr
 show Calls Tryz.prog 128 #[.slice A x.length c,.pointer (some ⟨t,0,none⟩)] w (Tells (recOk r x) w)
 have ht:=he.types
 obtain⟨n,hn⟩:∃n,x.length=n:=⟨_,rfl⟩
 have hn2:n≤9223372036854775807:=by unfold maxLen at l2;omega
 have HC:Hid (Calls Tryz.prog 126 #[.slice A n c,.int .i64 6,.pointer (some ⟨g,0,none⟩)] w (Tells (recOk r x) w)):=qCr b g A n c x 6 r w he.recs he.good hn l3 hn2 (by omega)
 rw[hn]
 clear hn l1 l2 l3 he
 generalize recOk r x=gd at*
 go_enter Tryz.func128,Tryz.ntmps128
 go_wp2_with (first|(go_at_call 126;refine HC.out.mono ?_;rintro e w1 ⟨rfl,hb⟩))
 go_ret
 exact⟨rfl,hb⟩
theorem qF0 (x:Ins) (w:World) (cs:List Value) (hr:insL.R (·<w.heap.size) w cs x):Calls Tryz.prog 131 #[vAgg cs] w (Tells (goodIn x) w):=by
 obtain⟨rfl,-⟩:=hr
 show Calls Tryz.prog 131 #[.agg #[.int .i64 x.1,.int .i64 x.2.1,.int .i64 x.2.2]] w (Tells (goodIn x) w)
 have HC:Hid (∀w,Calls Tryz.prog 143 #[.agg #[.int .i64 x.1,.int .i64 x.2.1,.int .i64 x.2.2]] w (Puts (iB x) w)):=fun w=>qFq x.1 x.2.1 x.2.2 w
 have hlen:=qE6 x
 have hd:Hid (goodIn x=decide (0<(iB x).length)):=by
  show goodIn x=decide (0<(iB x).length)
  cases hg:goodIn x
  · have e:iB x=[]:=qCz (by rw[show goodI x.1 x.2.1 x.2.2=false from hg];simp)
    rw[e]
    simp
  · have:=qI2 (op:=x.1) (a:=x.2.1) (b:=x.2.2) hg
    exact(decide_eq_true this).symm
 obtain⟨y,hy⟩:∃y,iB x=y:=⟨_,rfl⟩
 rw[hy] at HC hd hlen
 generalize goodIn x=gd at*
 clear hy
 generalize x.1=q1 at*
 generalize x.2.1=q2 at*
 generalize x.2.2=q3 at*
 go_enter Tryz.func131,Tryz.ntmps131
 go_wp2_with (first|(go_at_call 143;refine(HC.out _).mono ?_;rintro e w1 ⟨u,rfl,hown,hb⟩;obtain⟨A2,c2,rfl,-,-,-,-⟩:=qA5 hown;clear hown;have HB:=qAZ hb;clear hb))
 go_ret
 refine⟨?_,((qAe _ _).alloc (qAf _) _).trans (HB.out.mono (by simp))⟩
 rw[hd.out]
 simp
theorem qEP (x:List Nat) (w:World) (cs:List Value) (hr:strL.R (·<w.heap.size) w cs x):Calls Tryz.prog 137 #[vOne cs] w (Tells (shortB x) w):=by
 obtain⟨s,rfl,rfl⟩:=hr
 show Calls Tryz.prog 137 #[.string s] w (Tells (shortB (strB s)) w)
 have hd:Hid (shortB (strB s)=decide (s.size≤32)):=by show shortB (strB s)=_;rw[shortB,qB4]
 generalize shortB (strB s)=gd at*
 go_enter Tryz.func137,Tryz.ntmps137
 go_wp2_with fail
 go_ret
 refine⟨?_,qAe _ _⟩
 rw[hd.out]
 simp
 omega
end Go.Proofs.YtconajaecpgjgaaGreat
