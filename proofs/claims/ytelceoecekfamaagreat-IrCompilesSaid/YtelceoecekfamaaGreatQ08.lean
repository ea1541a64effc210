/-
Rin Rjn Rfx Rmh Rmn
-/
import Derived.Test.YtelceoecekfamaaGreatQ01
import Derived.Test.YtelceoecekfamaaGreatQ02
import Derived.Test.YtelceoecekfamaaGreatQ04
import Derived.Test.YtelceoecekfamaaGreatQ05
import Derived.Test.YtelceoecekfamaaGreatQ07
import Derived.Deep.DeepCutAuto
import Derived.Deep.RegionHeld3
set_option linter.unusedSimpArgs false
set_option linter.unusedVariables false
set_option maxRecDepth 100000
set_option maxHeartbeats 4000000
namespace Go.Proofs.YtelceoecekfamaaGreat
open Go.RowKit
variable {α:Type}{g:α→Bool}{k n:Nat}{x:α}{xs:List α}
theorem qA {P:Prop} (h:P:=by
 clear h'
 go_enter Tryz.func30,Tryz.ntmps30
 go_wp2_with (first
  |(go_at_call 47
    refine(AR.out _).mono ?_;rintro e w1 ⟨rfl,hb1⟩;have HB1:Hid (Below w.heap.size w w1):=((qAk _ _).alloc (qAi _) _).trans (hb1.mono (by simp));have hk:=(hb1.block w.heap.size (by simp)).trans (qBc w 52 #[.int .i64 op,.int .i64 a,.int .i64 b]);have HK:=qAg hk;have k0:=Blk.cell hk 0;have k1:=Blk.cell hk 1;have k2:=Blk.cell hk 2;have hs1:w.heap.size<w1.heap.size:=(by have:=hb1.size;simp at this;omega);simp at k0 k1 k2;clear hb1 hk))
 go_ret;exact⟨rfl,HB1.out⟩):P:=h
theorem qt {P:Prop} (h:P:=by
 clear hc
 go_enter Tryz.func14,Tryz.ntmps14
 go_wp2_with fail
 go_ret2;exact FIN.out _ HB0.out):P:=h
theorem qHm (op a b:Int) (w:World) (h:goodI op a b=false):
 Calls Tryz.prog 30 #[.agg #[.int .i64 op,.int .i64 a,.int .i64 b]] w fun e w'=>e= .returned (.slice none 0 0)∧Below w.heap.size w w':=by
 have h':¬(0≤argN op∧0≤a∧a≤(if 0<argN op then 255 else 0)∧0≤b∧b≤(if 1<argN op then 255 else 0)):=by
  intro hh;unfold goodI fitN at h;simp only[Bool.and_eq_false_iff,decide_eq_false_iff_not] at h;rcases h with h|h
  · exact h hh.1
  · exact h hh.2
 have AR:=qAg (fun w=>qB0 op w);obtain⟨n,hn⟩:∃n,argN op=n:=⟨_,rfl⟩;rw[hn] at h' AR;clear hn h
 by_cases n0:n<0
 · exact qA
 by_cases a0:a<0
 · exact qA
 by_cases a1:255<a
 · exact qA
 by_cases b0:b<0
 · exact qA
 by_cases b1:255<b
 · exact qA
 by_cases m1:n<1
 · by_cases az:a=0
   · subst az
     by_cases bz:b=0
     · exact absurd ⟨by omega,by omega,by rw[if_neg (by omega)];omega,by omega,by rw[if_neg (by omega)];omega⟩ h'
     · have m2:n<2:=by omega
       have bz':(b==0)=false:=by simp[bz]
       have bz2:(b != 0)=true:=by simp[bz]
       clear h'
       go_enter Tryz.func30,Tryz.ntmps30
       go_wp2_with (first
        |(go_at_call 47
          refine(AR.out _).mono ?_;rintro e w1 ⟨rfl,hb1⟩;refine j8 ?_;intro HB1;have hk:=(hb1.block w.heap.size (by simp)).trans (qBc w 52 #[.int .i64 op,.int .i64 0,.int .i64 b]);refine jz ?_;intro HK k0 k1 k2 hs1;simp at k0 k1 k2;clear hb1 hk))
       go_ret;exact⟨rfl,HB1.out⟩
   · have az':(a==0)=false:=by simp[az]
     have az2:(a != 0)=true:=by simp[az]
     exact qA
 · by_cases m2:n<2
   · by_cases bz:b=0
     · exact absurd ⟨by omega,by omega,by rw[if_pos (by omega)];omega,by omega,by rw[if_neg (by omega)];omega⟩ h'
     · have bz':(b==0)=false:=by simp[bz]
       have bz2:(b != 0)=true:=by simp[bz]
       exact qA
   · exact absurd ⟨by omega,by omega,by rw[if_pos (by omega)];omega,by omega,by rw[if_pos (by omega)];omega⟩ h'
theorem rins_0 (o x y:Nat) (w:World) (h:goodI o x y=true) (hn:argN o=0):
 Calls Tryz.prog 30 #[.agg #[.int .i64 (o:Nat),.int .i64 (x:Nat),.int .i64 (y:Nat)]] w fun e w'=>∃u,e= .returned u∧w'.ownsRow w.heap.size 5 1 u (insB o x y).length (Bs (insB o x y))∧Below w.heap.size w w':=by
 have AR:=qAg (fun w=>qB0 o w);rw[hn] at AR;obtain⟨o',x',y',eo,ex,ey,ho,hx,hy,-,hx1,hy1⟩:=qA6 h;obtain rfl:o=o':=by omega
 obtain rfl:x=x':=by omega
 obtain rfl:y=y':=by omega
 have HE:Hid (insB o x y=[o]++bodyB 0 x y):=by
  show insB o x y=[o]++bodyB 0 x y
  rw[qBX h,hn]
  rfl
 have HO:Hid (o<256):=by show o<256;omega
 refine zx ?_;intro HX64 HY64 HL1 HL2;clear eo ex ey;have hx0:x=0:=hx1 (by rw[hn];decide);have hy0:y=0:=hy1 (by rw[hn];decide);subst hx0 hy0;clear hn h hx1 hy1
 go_enter Tryz.func30,Tryz.ntmps30
 go_wp2_with (first
  |(go_at_call 47
    refine(AR.out _).mono ?_;rintro e w1 ⟨rfl,hb1⟩;refine j8 ?_;intro HB1;have hk:=(hb1.block w.heap.size (by simp)).trans (qBc w 52 #[.int .i64 (o:Nat),.int .i64 0,.int .i64 0]);refine jz ?_;intro HK k0 k1 k2 hs1;simp at k0 k1 k2;clear hb1 hk))
 go_ret;have e:insB o 0 0=[o]:=by have:=HE.out;simp[bodyB] at this ⊢;exact this
 have el:(insB o 0 0).length=1:=by rw[e];simp;try omega
 refine⟨_,rfl,?_,HB1.out.alloc HB1.out.size _⟩;have:=qBQ (qDg w1 _ o rfl) HB1.out.size;simp at el e⊢;rw[el,e];exact this
theorem rins_1 (o x y:Nat) (w:World) (h:goodI o x y=true) (hn:argN o=1):
 Calls Tryz.prog 30 #[.agg #[.int .i64 (o:Nat),.int .i64 (x:Nat),.int .i64 (y:Nat)]] w fun e w'=>∃u,e= .returned u∧w'.ownsRow w.heap.size 5 1 u (insB o x y).length (Bs (insB o x y))∧Below w.heap.size w w':=by
 have AR:=qAg (fun w=>qB0 o w);rw[hn] at AR;obtain⟨o',x',y',eo,ex,ey,ho,hx,hy,-,hx1,hy1⟩:=qA6 h;obtain rfl:o=o':=by omega
 obtain rfl:x=x':=by omega
 obtain rfl:y=y':=by omega
 have HE:Hid (insB o x y=[o]++bodyB 1 x y):=by
  show insB o x y=[o]++bodyB 1 x y
  rw[qBX h,hn]
  rfl
 have HO:Hid (o<256):=by show o<256;omega
 refine zx ?_;intro HX64 HY64 HL1 HL2;clear eo ex ey;have hy0:y=0:=hy1 (by rw[hn];decide);subst hy0;clear hn h hx1 hy1
 go_enter Tryz.func30,Tryz.ntmps30
 go_wp2_with (first
  |(go_at_call 47
    refine(AR.out _).mono ?_;rintro e w1 ⟨rfl,hb1⟩;refine j8 ?_;intro HB1;have hk:=(hb1.block w.heap.size (by simp)).trans (qBc w 52 #[.int .i64 (o:Nat),.int .i64 (x:Nat),.int .i64 0]);refine jz ?_;intro HK k0 k1 k2 hs1;simp at k0 k1 k2;clear hb1 hk)
  |(go_at_call 26
    refine(qA3 x _ HX64.out).mono ?_;rintro e w4 ⟨u4,rfl,hown4,hb4⟩;obtain⟨A4,c4,rfl,-,-,-,hY4⟩:=qAu hown4;refine qAM ?_;intro HY4 HO4 HB4 HS4;clear hown4 hY4 hb4)
  |(at_builtin
    refine qAt _ rfl (.tmp 54) (.tmp 58) rfl w1.heap.size (.slice (some ⟨w1.heap.size,0,none⟩) 1 1) 1 [o] rfl HO4.out A4 (vb x).length c4 (vb x) rfl rfl _ HY4.out HL1.out HS4.out ?_;intro v5 w5 hown5 hg5 _;refine qAF ?_;intro HO5 HB5;have hk5:=(HB5.out.block w.heap.size hs1).trans HK.out;have k52:=Blk.cell hk5 2;simp at k52;clear hown5 hg5 hk5))
 go_ret;have e:insB o x 0=[o]++vb x:=by have:=HE.out;simp[bodyB] at this ⊢;exact this
 have el:(insB o x 0).length=1+(vb x).length:=by rw[e];simp;try omega
 refine⟨_,rfl,?_,HB1.out.trans (HB5.out.mono HB1.out.size)⟩;simp only[Int.ofNat_zero,Int.natCast_zero] at el e⊢;rw[el,e];exact qBQ HO5.out HB1.out.size
theorem rins_2 (o x y:Nat) (w:World) (h:goodI o x y=true) (hn:argN o=2):
 Calls Tryz.prog 30 #[.agg #[.int .i64 (o:Nat),.int .i64 (x:Nat),.int .i64 (y:Nat)]] w fun e w'=>∃u,e= .returned u∧w'.ownsRow w.heap.size 5 1 u (insB o x y).length (Bs (insB o x y))∧Below w.heap.size w w':=by
 have AR:=qAg (fun w=>qB0 o w);rw[hn] at AR;obtain⟨o',x',y',eo,ex,ey,ho,hx,hy,-,hx1,hy1⟩:=qA6 h;obtain rfl:o=o':=by omega
 obtain rfl:x=x':=by omega
 obtain rfl:y=y':=by omega
 have HE:Hid (insB o x y=[o]++bodyB 2 x y):=by
  show insB o x y=[o]++bodyB 2 x y
  rw[qBX h,hn]
  rfl
 have HO:Hid (o<256):=by show o<256;omega
 refine zx ?_;intro HX64 HY64 HL1 HL2;clear eo ex ey;clear hn h hx1 hy1
 go_enter Tryz.func30,Tryz.ntmps30
 go_wp2_with (first
  |(go_at_call 47
    refine(AR.out _).mono ?_;rintro e w1 ⟨rfl,hb1⟩;refine j8 ?_;intro HB1;have hk:=(hb1.block w.heap.size (by simp)).trans (qBc w 52 #[.int .i64 (o:Nat),.int .i64 (x:Nat),.int .i64 (y:Nat)]);refine jz ?_;intro HK k0 k1 k2 hs1;simp at k0 k1 k2;clear hb1 hk)
  |(go_at_call 26
    have hp:=HO5.out;clear hp;refine(qA3 y w5 HY64.out).mono ?_;rintro e w6 ⟨u6,rfl,hown6,hb6⟩;obtain⟨A6,c6,rfl,-,-,-,hY6⟩:=qAu hown6;have HY6:=qAg hY6;have HO6:=qAg (qA0 HO5.out hb6 (qAi _));have HB6:=qAg (HB5.out.trans (hb6.mono HB5.out.size));have HS6:=qAg HB6.out.size;clear hown6 hY6 hb6)
  |(at_builtin
    have hp:=HO6.out;clear hp;refine qAt _ rfl (.tmp 62) (.tmp 66) rfl w1.heap.size v5 (1+(vb x).length) ([o]++vb x) rfl HO6.out A6 (vb y).length c6 (vb y) rfl rfl _ HY6.out HL2.out HS6.out ?_;intro v7 w7 hown7 hg7 _;have HO7:=qAg hown7;have HB7:=qAg (HB6.out.grown hg7 HS6.out (fun i hi=>(HO6.out.lt i hi).1));clear hown7 hg7)
  |(go_at_call 26
    refine(qA3 x _ HX64.out).mono ?_;rintro e w4 ⟨u4,rfl,hown4,hb4⟩;obtain⟨A4,c4,rfl,-,-,-,hY4⟩:=qAu hown4;refine qAM ?_;intro HY4 HO4 HB4 HS4;clear hown4 hY4 hb4)
  |(at_builtin
    refine qAt _ rfl (.tmp 54) (.tmp 58) rfl w1.heap.size (.slice (some ⟨w1.heap.size,0,none⟩) 1 1) 1 [o] rfl HO4.out A4 (vb x).length c4 (vb x) rfl rfl _ HY4.out HL1.out HS4.out ?_;intro v5 w5 hown5 hg5 _;refine qAF ?_;intro HO5 HB5;have hk5:=(HB5.out.block w.heap.size hs1).trans HK.out;have k52:=Blk.cell hk5 2;simp at k52;clear hown5 hg5 hk5))
 go_ret;have e:insB o x y=[o]++vb x++vb y:=by have:=HE.out;simp[bodyB] at this ⊢;exact this
 have el:(insB o x y).length=1+(vb x).length+(vb y).length:=by rw[e];simp;try omega
 refine⟨_,rfl,?_,HB1.out.trans (HB7.out.mono HB1.out.size)⟩;rw[el,e];exact qBQ HO7.out HB1.out.size
theorem qIy (op a b:Int) (w:World):
 Calls Tryz.prog 30 #[.agg #[.int .i64 op,.int .i64 a,.int .i64 b]] w fun e w'=>∃u,e= .returned u∧w'.ownsRow w.heap.size 5 1 u (insB op a b).length (Bs (insB op a b))∧Below w.heap.size w w':=by
 by_cases h:goodI op a b=true
 · obtain⟨o,x,y,rfl,rfl,rfl,-,-,-,h0,-⟩:=qA6 h
   rcases qEN o with hn|hn|hn|hn
   · omega
   · exact rins_0 o x y w h hn
   · exact rins_1 o x y w h hn
   · exact rins_2 o x y w h hn
 · rw[qCc h]
   refine(qHm op a b w qy).mono ?_;rintro e w' ⟨rfl,hb⟩;exact⟨_,rfl,qHK _ _,hb⟩
theorem qFa (A:Option Addr) (n c:Nat) (xss:List (List Nat)) (w:World) (hl:xss.length=n) (hR:Rws (·<w.heap.size) w A xss) (hn:(joinB xss).length≤1000000):
 Calls Tryz.prog 32 #[.slice A n c] w fun e w'=>∃v,e= .returned v∧w'.ownsRow w.heap.size 5 1 v (joinB xss).length (Bs (joinB xss))∧Below w.heap.size w w':=by
 have hn2:n≤1000000:=by have:=qFj xss;rw[qBW] at hn;omega
 have HN:=qAg hn;have HL:=qAg hl;have HR:=qAg hR;clear hl hR hn;have hn3:n<B64:=by unfold B64;omega
 go_enter Tryz.func32,Tryz.ntmps32
 go_wp2_with fail
 refine(qA3 n w hn3).mono ?_;rintro e w1 ⟨u1,rfl,hown1,hb1⟩;refine qAA ?_;intro HO1 HB1;clear hown1 hb1
 go_wp2_with fail
 go_loopw [3,4] (fun s i wr=>∃k:Nat,k≤n∧i= .int .i64 (k:Nat)∧(∃q,q=vb n++pts (xss.take k)∧q.length≤1000000∧wr.ownsRow w.heap.size 5 1 s q.length (Bs q))∧Below w.heap.size w wr) (fun _ i _=>n-(intOf i).toNat)
 case atStart=>
  exact zQ
 case round=>
  obtain⟨k,hk,rfl,⟨q,hq,hq2,hown⟩,hbel⟩:=hrel;have HO:Hid (wr.drew.ownsRow w.heap.size 5 1 u3 q.length (Bs q)):=qA0 hown ((qAk _ wr).drew) (qAi _);have HO0:=qAg hown;have HB0:=qAg hbel;have HB:Hid (Below w.heap.size w wr.drew):=hbel.drew;have HQ:=qAg hq;have hs:=hbel.size;clear hown hbel hq
  by_cases hlt:k<n
  · obtain⟨a,B,c2,rfl,hab,hcell,_,hBy⟩:=HR.out.at (k:=k) qS
    have hcell2:wr.cell? (a.add k)=some (.slice B (xss[k]?.getD []).length c2):=(HB0.out.cell (p:=a.add k) qB).trans hcell;have HF:=qAg (qFi xss k qS);have hle2:=qI4 xss (k+1);rw[HF.out,List.length_append,qCZ] at hle2;obtain⟨x,hx⟩:∃x,xss[k]?.getD []=x:=⟨_,rfl⟩;rw[hx] at hcell hle2 hcell2 hBy;have HX:=qAg hx;have HY:=qAg hBy;have HC:=qAg hcell;have HA:Hid ((a.add k).block<w.heap.size):=by show(a.add k).block<w.heap.size;rw[qAz];exact hab
    clear hx hcell hBy hab;have hq3:q.length+(vb x.length).length+x.length≤1000000:=by
     have:=HN.out;rw[qBW,HL.out] at this;rw[HQ.out,List.length_append]
     omega
    clear hle2;have hx64:x.length<B64:=by unfold B64;omega
    have k0:0≤(k:Int):=by omega
    have k1:(k:Int)<(n:Int):=by omega
    have b1:q.length+(vb x.length).length≤140737488355328:=by omega
    have b2:q.length+(vb x.length).length+x.length≤140737488355328:=by omega
    have HW:Hid (IntKind.u64.wrap ((x.length:Nat):Int)=((x.length:Nat):Int)):=by show IntKind.u64.wrap ((x.length:Nat):Int)=_;rw[IntKind.wrap_u64];omega
    go_wp2_with fail
    go_region_law (first
     |(with_reducible refine qBV (.tmp 15) (.tmp 22) 62 ?_
       refine qBC _ rfl (.tmp 15) (.tmp 22) rfl w.heap.size u3 q.length q rfl HO2.out A2 (vb x.length).length c3 (vb x.length) rfl rfl _ HB2.out b1 HS2.out ?_;intro v3 w3 hown3 hg3 _;have HO3:=qAg hown3;have HB3:=qAg (Hb2.out.grown hg3 HS2.out (fun i hi=>(HO.out.lt i hi).1));have HS3:=qAg HB3.out.size;have hcell4:=(HB3.out.cell (p:=a.add k) HA.out).trans HC.out;clear hown3 hg3)
     |(with_reducible refine qBV (.tmp 23) (.tmp 27) 62 ?_
       refine qBC _ rfl (.tmp 23) (.tmp 27) rfl w.heap.size v3 (q.length+(vb x.length).length) (q++vb x.length) rfl HO3.out B x.length c2 x rfl rfl (·<w.heap.size) (HY.out.below HB3.out (qAi _)) b2 HS3.out ?_;intro v4 w4 hown4 hg4 _;have HO4:=qAg hown4;have HB4:=qAg (HB3.out.grown hg4 HS3.out (fun i hi=>(HO3.out.lt i hi).1));clear hown4 hg4)
     |(with_reducible refine qB5 26 ?_
       go_simp
       go_at_call 26
       rw[HW.out];refine(qA3 x.length _ hx64).mono ?_;rintro e w2 ⟨u2,rfl,hown2,hb2⟩;obtain⟨A2,c3,rfl,-,-,-,hB2⟩:=qAu hown2;have HB2:=qAg hB2;have Hb2:=qAg (HB.out.trans (hb2.mono HB.out.size));have HO2:=qAg (qA0 HO.out hb2 (qAi _));have HS2:=qAg Hb2.out.size;have hcell3:=(Hb2.out.cell (p:=a.add k) HA.out).trans HC.out;clear hown2 hB2 hb2))
    all_goals
     go_wp2_with fail
     refine⟨⟨k+1,by omega,by simp,⟨q++vb x.length++x,?_,?_,?_⟩,HB4.out⟩,by simp[intOf];omega⟩
     · rw[HF.out,HQ.out,HX.out,pt]
       simp[List.append_assoc]
     · simp[List.length_append]
       omega
     · exact zt
  · obtain rfl:k=n:=by omega
    go_wp2_with fail
    go_ret;refine⟨_,rfl,?_,HB0.out⟩;have e:joinB xss=q:=by
     rw[HQ.out,qAn qO,joinB,HL.out]
    rw[e];exact HO0.out
theorem qE2 (v:Nat) (n:Int) (w:World) (hv:v<B64):
 Calls Tryz.prog 31 #[.int .u64 (v:Nat),.int .i64 n] w fun e w'=>∃u,e= .returned u∧w'.ownsRow w.heap.size 5 1 u (wid n) (Bs (fb v (wid n)))∧Below w.heap.size w w':=by
 go_enter Tryz.func31,Tryz.ntmps31
 go_wp2
 go_loopw [0,5,6] (fun x o i wr=>∃k:Nat,k≤wid n∧x= .int .u64 ((v / 256 ^ k:Nat):Int)∧i= .int .i64 (k:Nat)∧wr.ownsRow w.heap.size 5 1 o k (Bs (fb v k))∧Below w.heap.size w wr) (fun _ _ i _=>8-(intOf i).toNat)
 case atStart=>exact⟨0,qAq _,by simp,rfl,World.ownsRow_nil _ _ _ _,qAk _ _⟩
 case round=>
  obtain⟨k,hk,rfl,rfl,hown,hbel⟩:=hrel;have hw8:=qIX n;have hvk:v / 256 ^ k<B64:=Nat.lt_of_le_of_lt (Nat.div_le_self _ _) hv;obtain⟨u,hu⟩:∃u,v / 256 ^ k=u:=⟨_,rfl⟩;rw[hu] at hvk⊢;have HU:=qAg hu;have HO:=qAg hown;have HV:=qAg hvk;clear hu hown hvk hv;have hs:=hbel.size
  by_cases hlt:k<wid n
  · have t1:decide ((k:Int)<n)=true:=by unfold wid at hlt;simp;omega
    have t2:decide ((k:Int)<8)=true:=by simp;omega
    have t3:k<8:=by omega
    go_wp2_with (at_builtin
                 refine qAt _ rfl (.tmp 16) (.tmp 20) rfl w.heap.size u5 k (fb v k) rfl (HO.out.alloc _) (some ⟨wr.heap.size,0,none⟩) 1 1 [u % 256] rfl rfl (·=wr.heap.size) (qFM wr _ (u % 256) (by first|rfl|omega|simp)) (by omega) qK ?_;intro v1 w1 hown1 hg1 _)
    refine⟨⟨k+1,hlt,?_,by simp,?_,(hbel.alloc hs _).grown hg1 qK (fun j hj=>(HO.out.lt j hj).1)⟩,by simp[intOf];omega⟩
    · have e:v / 256 ^ (k+1)=u / 256:=by rw[Nat.pow_succ,←Nat.div_div_eq_div_mul,HU.out]
      have h:=HV.out;unfold B64 at h;rw[e,IntKind.wrap_u64]
      congr 1
      omega
    · rw[fb_succ,HU.out]
      exact hown1
  · obtain rfl:k=wid n:=by omega
    by_cases hn:((wid n:Nat):Int)<n
    · have t1:decide (((wid n:Nat):Int)<n)=true:=by simpa using hn
      have t2:decide (((wid n:Nat):Int)<8)=false:=by unfold wid at hn ⊢;simp;omega
      have t3:¬wid n<8:=by unfold wid at hn ⊢;omega
      go_wp2
      go_ret;exact⟨_,rfl,HO.out,hbel⟩
    · have t1:decide (((wid n:Nat):Int)<n)=false:=by simpa using hn
      go_wp2
      go_ret;exact⟨_,rfl,HO.out,hbel⟩
theorem qBz (A:Option Addr) (n c:Nat) (xs:List Typ) (r mo:Int) (w:World) (hl:xs.length=n) (h:Sq typL (·<w.heap.size) w A xs) (hn2:n≤3000) (hr:r≤8):
 Calls Tryz.prog 27 #[.slice A n c,.int .i64 r,.int .i64 mo] w fun e w'=>Below w.heap.size w w'∧∃A2 m c2 ys,e= .returned (.tuple #[.slice A2 m c2,.bool (witB 0 mo (goodT r) xs)])∧ys.length=m∧m≤12010∧m≤c2∧Byt (fun b=>w.heap.size≤b∧b<w'.heap.size) w' A2 ys∧(witB 0 mo (goodT r) xs=true→ys=lB tB xs):=by
 refine(qGX A n c xs r mo w hl h hn2 hr).mono ?_;rintro e w' ⟨hb,⟨hall,u,rfl,hown⟩|⟨hall,rfl⟩⟩
 · obtain⟨A2,c2,rfl,hn,hc,_,hB⟩:=qAu hown
   have hw:witB 0 mo (goodT r) xs=decide ((xs.length:Int)≤mo):=by
    simp only[witB,hall,Bool.and_true];exact decide_eq_decide.2 ⟨fun h=>h.2,fun h=>⟨by omega,h⟩⟩
   have hlen:=qBb tB xs 4 (fun t ht=>qCi hr (List.all_eq_true.1 hall t ht)) (by unfold B64;omega);refine⟨hb,A2,_,c2,lB tB xs,by rw[hw],rfl,by omega,hc,hB,fun _=>rfl⟩
 · have hw:witB 0 mo (goodT r) xs=false:=by simp only[witB,hall,Bool.and_false]
   refine⟨hb,none,0,0,[],by rw[hw],rfl,by omega,by omega,Byt.nil _ _ _,fun h=>by rw[hw] at h;cases h⟩
def RMod (x:Mod) (w:World) (e:Ending) (w':World):Prop:=
 Below w.heap.size w w'∧((fitB x=true∧∃u,e= .returned (.tuple #[u,.bool true])∧w'.ownsRow w.heap.size 5 1 u (modB x).length (Bs (modB x)))∨
  (fitB x=false∧∃A n c,e= .returned (.tuple #[.slice A n c,.bool false])))
theorem qC0 (hx:xs[k]? =some x):(xs.take (k+1)).all g=((xs.take k).all g && g x):=by
 obtain⟨hk,rfl⟩:=qAj.1 hx;rw[qAp hk,List.all_append];simp
theorem fit_all {x:Mod} (h0:x.recs.length≤8) (h1:1≤x.funcs.length) (h2:x.funcs.length≤8) (h3:x.imps.length≤8) (h4:x.ints.length≤16) (h5:x.texts.length≤16):
 fitB x=(x.recs.all (recOk x.recs.length) && x.funcs.all (fnOk x.recs.length) && x.imps.all (impOk x.recs.length) && x.texts.all shortB):=by
 have e0:decide ((0:Int)≤(x.recs.length:Int)∧(x.recs.length:Int)≤8)=true:=decide_eq_true ⟨by omega,by omega⟩;have e1:decide ((1:Int)≤(x.funcs.length:Int)∧(x.funcs.length:Int)≤8)=true:=decide_eq_true ⟨by omega,by omega⟩;have e2:decide ((0:Int)≤(x.imps.length:Int)∧(x.imps.length:Int)≤8)=true:=decide_eq_true ⟨by omega,by omega⟩;have e3:decide (x.ints.length≤16)=true:=decide_eq_true h4;have e4:decide ((0:Int)≤(x.texts.length:Int)∧(x.texts.length:Int)≤16)=true:=decide_eq_true ⟨by omega,by omega⟩;simp only[fitB,witB,e0,e1,e2,e3,e4,Bool.true_and,Bool.and_true]
theorem C5.grown {b:Nat} {v0 v1 v2 v3 v4:Value} {w w':World} {o:Option Nat} (h:C5 b v0 v1 v2 v3 v4 w) (hg:w.grownBy w' o) (ho:o≠some b) (hb:b<w.heap.size):C5 b v0 v1 v2 v3 v4 w':=by
 have hk:w'.heap[b]? =w.heap[b]? :=hg.block b hb (by intro e;first|exact ho e|exact ho e.symm);have hc:∀i,w'.cell? ⟨b,i,none⟩=w.cell? ⟨b,i,none⟩:=fun i=>qAy hk;exact⟨(hc 0).trans h.1,(hc 1).trans h.2.1,(hc 2).trans h.2.2.1,(hc 3).trans h.2.2.2.1,(hc 4).trans h.2.2.2.2⟩
theorem qDc (w:World) {ops:Array Oper} {o:Oper} {a:Act} {K:Act→World→Prop} {Q:Exit→Act→World→Prop} {E:Prop} (hgd:o.guard=none) (sl x:Operand)
 (ho:o.op= .call {callee:= .builtin .append,args:= #[sl,x],argTypes:= #[62,9]})
 (base:Nat) (v:Value) (n:Nat) (xs:List Nat) (hs:a.eval sl=v) (hown:w.ownsRow base 5 1 v n (Bs xs)) (s:ByteArray) (hx:a.eval x= .string s)
 (hbig:n+(strB s).length≤140737488355328) (hbase:base≤w.heap.size)
 (h:∀v' w',w'.ownsRow base 5 1 v' (n+(strB s).length) (Bs (xs++strB s))→w.grownBy w' v.ownBlock→K (a.put o.dst v') w'):
 if Region.wanted o (yielded ops a.tmps)=true then Oper.wp Tryz.prog o a w K Q else E:=by
 have hw:Region.wanted o (yielded ops a.tmps)=true:=by simp[Region.wanted,hgd]
 rw[if_pos hw];obtain⟨i0,hi0,hz0,hz1,hz2⟩:=info_parts qCr;rw[qBj] at hbig h;obtain⟨v',w',hrun,h2,h3,_⟩:=Lib.run_append_own_string (P:=Tryz.prog) w base 62 9 o.type 5 i0 Tryz.underlying62 Tryz.underlying9 hi0 hz0 hz1 hz2 v n (Bs xs) hown s zh hbig hbase;unfold Oper.wp execOp;simp only[ho,resolve,invoke,builtin,Sem.run_bind,Sem.run_pure,Result.andThen_ok,List.map_toArray,List.map_cons,List.map_nil,hs,hx,hrun];rw[qDo,←qHC] at h2;exact h v' w' h2 h3
theorem qIb (s x:Operand) (t u:TypeId) {d:Option Tmp} {ty:TypeId} {p:String} {af:Array Edge} {g:Option (Nat×Bool)} {y:Nat→Option Bool} {inst:Decidable (Region.wanted ⟨d,.call ⟨.builtin .append,#[s,x],#[t,u]⟩,ty,p,af,g⟩ y=true)} {W E:Prop}
 (h: @ite Prop (Region.wanted ⟨d,.call ⟨.builtin .append,#[s,x],#[t,u]⟩,ty,p,af,g⟩ y=true) inst W E): @ite Prop (Region.wanted ⟨d,.call ⟨.builtin .append,#[s,x],#[t,u]⟩,ty,p,af,g⟩ y=true) inst W E:=h
theorem qDn (h:(xs.take k).all g=false):xs.all g=false:=by
 rw[←List.take_append_drop k xs,List.all_append,h]
 rfl
theorem qCh (hx:xs[k]? =some x) (h:g x=false):xs.all g=false:=by
 rw[List.all_eq_false];exact⟨x,qAl hx,by rw[h];simp⟩
theorem qBU (h:xs.length=n):xs.take n=xs:=qAn (by omega)
theorem qE7 {t:Ins} (h:goodIn t=true):0<(iB t).length:=by
 obtain⟨o,a,b⟩:=t;obtain⟨o1,a1,b1,rfl,rfl,rfl,_⟩:=qA6 (op:=o) (a:=a) (b:=b) h;rw[iB,qBX h];simp
theorem qJR {t:Ins} (h:goodIn t=false):iB t=[]:=by
 obtain⟨o,a,b⟩:=t;unfold iB insB;have h':goodI o a b=false:=h;simp[h']
theorem wit_few {hi:Int} (h:xs.length=n) (hn:¬1≤n):witB 1 hi g xs=false:=by
 have:decide ((1:Int)≤(xs.length:Int)∧(xs.length:Int)≤hi)=false:=decide_eq_false (by omega);rw[witB,this]
 rfl
theorem qIV (h:xs.length=n) (hn:¬n≤64):witB 1 64 g xs=false:=by
 have:decide ((1:Int)≤(xs.length:Int)∧(xs.length:Int)≤64)=false:=decide_eq_false (by omega);rw[witB,this]
 rfl
theorem wit_one {lo hi:Int} (hx:xs[k]? =some x) (h:g x=false):witB lo hi g xs=false:=by
 rw[witB,qCh hx h];simp
theorem qIW (h:xs.length=n) (h1:1≤n) (h2:n≤64) (ha:xs.all g=true):witB 1 64 g xs=true:=by
 have:decide ((1:Int)≤(xs.length:Int)∧(xs.length:Int)≤64)=true:=decide_eq_true (by omega);rw[witB,this,ha]
 rfl
def Out (lo hi:Nat) (v:Value):Prop:=∀i,v.ownBlock=some i→i<lo∨hi≤i
theorem qJV {lo hi b:Nat} {v:Value} {w w':World} (ho:Out lo hi v) (hg:w.grownBy w' v.ownBlock) (h1:lo≤b) (h2:b<hi) (h3:hi≤w.heap.size):w'.heap[b]? =w.heap[b]? :=
 hg.block b (by omega) (by intro e;have:=ho b (by first|exact e|exact e.symm);omega)
theorem Out.grown {lo hi:Nat} {v v':Value} (h:Out lo hi v) (hv:v'.ownBlock=v.ownBlock∨v'.ownBlock=some n) (hn:hi≤n):Out lo hi v':=fun i hi'=>by
 rcases hv with e|e
 · exact h i (e▸hi')
 · rw[e] at hi'
   injection hi' with hi'
   omega
structure Rgn (V:World) (lo hi:Nat) (a b c d e:Value) (Y1 Y2:Option Addr) (ys1 ys2:List Nat) (s:Value) (q:List Nat) (w:World):Prop where
 own:w.ownsRow V.heap.size 5 1 s q.length (Bs q)
 bel:Below V.heap.size V w
 c5:C5 lo a b c d e w
 y1:Byt (fun b=>lo≤b∧b<hi) w Y1 ys1
 y2:Byt (fun b=>lo≤b∧b<hi) w Y2 ys2
 out:Out lo hi s
 lh:lo<hi
 hw:hi≤w.heap.size
section
variable {V:World} {lo hi:Nat} {a b c d e:Value} {Y1 Y2:Option Addr} {ys1 ys2:List Nat} {s:Value} {q:List Nat} {w w':World}
theorem Rgn.call (h:Rgn V lo hi a b c d e Y1 Y2 ys1 ys2 s q w) (hb:Below w.heap.size w w'):Rgn V lo hi a b c d e Y1 Y2 ys1 ys2 s q w':=
 have hl:=h.lh;have hh:=h.hw
 ⟨qA0 h.own hb (qAi _),h.bel.trans (hb.mono h.bel.size),h.c5.below hb (by omega),h.y1.keep fun b h1=>hb.block b (by omega),h.y2.keep fun b h1=>hb.block b (by omega),h.out,h.lh,qA8 h.hw hb.size⟩
theorem qBr (h:Rgn V lo hi a b c d e Y1 Y2 ys1 ys2 s q w):w.cell? ⟨lo,1,none⟩=some b∧w.cell? ⟨lo,2,none⟩=some c∧w.cell? ⟨lo,4,none⟩=some e:=⟨h.c5.2.1,h.c5.2.2.1,h.c5.2.2.2.2⟩
theorem Rgn.drew (h:Rgn V lo hi a b c d e Y1 Y2 ys1 ys2 s q w):Rgn V lo hi a b c d e Y1 Y2 ys1 ys2 s q w.drew:=h.call ((qAk _ w).drew)
theorem Rgn.app (h:Rgn V lo hi a b c d e Y1 Y2 ys1 ys2 s q w) {v':Value} {ys:List Nat} {m:Nat} (hm:ys.length=m) (hown:w'.ownsRow V.heap.size 5 1 v' (q.length+m) (Bs (q++ys))) (hg:w.grownBy w' s.ownBlock) (hv:v'.ownBlock=s.ownBlock∨v'.ownBlock=some w.heap.size):
 Rgn V lo hi a b c d e Y1 Y2 ys1 ys2 v' (q++ys) w':=by
 have hl:=h.lh;have hh:=h.hw;have hk:∀b,lo≤b∧b<hi→w'.heap[b]? =w.heap[b]? :=fun b hb=>qJV h.out hg hb.1 hb.2 hh;refine⟨by rw[List.length_append,hm];exact hown,h.bel.grown hg h.bel.size (fun i hi=>(h.own.lt i hi).1),?_,h.y1.keep hk,h.y2.keep hk,h.out.grown hv hh,hl,qA8 hh hg.size⟩;have hc:∀i,w'.cell? ⟨lo,i,none⟩=w.cell? ⟨lo,i,none⟩:=fun i=>qAy (hk lo ⟨qAi _,hl⟩);exact⟨(hc 0).trans h.c5.1,(hc 1).trans h.c5.2.1,(hc 2).trans h.c5.2.2.1,(hc 3).trans h.c5.2.2.2.1,(hc 4).trans h.c5.2.2.2.2⟩
end
theorem qIs (cs:List Value) (x:Mod) (w:World) (h:modL.R (·<w.heap.size) w cs x) (hc:¬(x.recs.length≤8∧1≤x.funcs.length∧x.funcs.length≤8∧x.imps.length≤8∧x.ints.length≤16∧x.texts.length≤16)):Calls Tryz.prog 14 #[vAgg cs] w (RMod x w):=by
 obtain⟨_,_,_,_,_,rfl,⟨A0,d0,e0,l0,m0,s0⟩,⟨A1,d1,e1,l1,m1,s1⟩,⟨A2,d2,e2,l2,m2,s2⟩,⟨A3,d3,e3,l3,m3,s3⟩,⟨A4,d4,e4,l4,m4,s4⟩⟩:=h;simp only[List.cons.injEq,and_true] at e0 e1 e2 e3 e4;subst e0 e1 e2 e3 e4;unfold maxLen at m0 m1 m2 m3 m4
 show Calls Tryz.prog 14 #[.agg #[.slice A0 x.recs.length d0,.slice A1 x.funcs.length d1,.slice A2 x.imps.length d2,.slice A3 x.ints.length d3,.slice A4 x.texts.length d4]] w _
 refine jG ?_;intro n0 hn0 HL0 HS0 n1 hn1 HL1 HS1 n2 hn2 HL2 HS2 n3 hn3 HL3 HS3 n4 hn4 HL4;have HS4:=qAg s4;rw[hn0,hn1,hn2,hn3,hn4] at hc⊢;rw[hn0] at l0;rw[hn1] at l1;rw[hn2] at l2;rw[hn3] at l3;rw[hn4] at l4;clear hn0 s0 hn1 s1 hn2 s2 hn3 s3 hn4 s4;refine jp ?_;intro HB0;have HF:Hid (fitB x=false):=by
  cases hf:fitB x
  · rfl
  · exfalso
    have hF:=qA1.1 hf;have:=hF.r8;have:=hF.f1;have:=hF.f8;have:=hF.i8;have:=hF.n16;have:=hF.t16;rw[HL0.out] at*;rw[HL1.out] at*;rw[HL2.out] at*;rw[HL3.out] at*;rw[HL4.out] at*
    omega
 have FIN:Hid (∀W':World,Below w.heap.size w W'→RMod x w (.returned (.tuple #[.slice none 0 0,.bool false])) W'):=fun W' hb=>⟨hb,.inr ⟨HF.out,none,0,0,rfl⟩⟩
 by_cases c0:n0≤8
 rotate_left
 · have g0:(8:Int)<(n0:Int):=by omega
   exact qt
 by_cases c1:1≤n1
 rotate_left
 · have g0:¬(8:Int)<(n0:Int):=by omega
   have g1:(n1:Int)<(1:Int):=by omega
   exact qt
 by_cases c2:n1≤8
 rotate_left
 · have g0:¬(8:Int)<(n0:Int):=by omega
   have g1:¬(n1:Int)<(1:Int):=by omega
   have g2:(8:Int)<(n1:Int):=by omega
   exact qt
 by_cases c3:n2≤8
 rotate_left
 · refine j9 ?_;intro g0 g1 g2
   have g3:(8:Int)<(n2:Int):=by omega
   exact qt
 by_cases c4:n3≤16
 rotate_left
 · refine j9 ?_;intro g0 g1 g2
   have g3:¬(8:Int)<(n2:Int):=by omega
   have g4:(16:Int)<(n3:Int):=by omega
   exact qt
 refine j9 ?_;intro g0 g1 g2;have g3:¬(8:Int)<(n2:Int):=by omega
 have g4:¬(16:Int)<(n3:Int):=by omega
 have g5:(16:Int)<(n4:Int):=by omega
 clear hc
 go_enter Tryz.func14,Tryz.ntmps14
 go_wp2_with fail
 go_ret2;exact FIN.out _ HB0.out
end Go.Proofs.YtelceoecekfamaaGreat
