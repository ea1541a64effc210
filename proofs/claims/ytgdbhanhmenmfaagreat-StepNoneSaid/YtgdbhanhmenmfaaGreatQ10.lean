/-
Knd Eft Ctt Fonw Fcp Ffo Ffp Vm Vc
-/
import Derived.Test.YtgdbhanhmenmfaaGreatQ01
import Derived.Test.YtgdbhanhmenmfaaGreatQ02
import Derived.Test.YtgdbhanhmenmfaaGreatQ05
import Derived.Test.YtgdbhanhmenmfaaGreatQ09
import Derived.Deep.RegionHeld3
import Derived.Deep.RegionWith
import Derived.Lib.QuietBelow
import Derived.BigQuiet
set_option linter.unusedSimpArgs false
set_option linter.unusedVariables false
set_option maxRecDepth 100000
set_option maxHeartbeats 1000000
namespace Go.Proofs.YtgdbhanhmenmfaaGreat
open Go.RowKit
variable {N:Nat}{a b:List Typ}{c:Prop}{f fn:Fn}{i:Ins}{ins:List Typ}{k:Nat}{l:List Int}{m:Mod}{n:Nat}{outs:List Typ}{p:Nat}{r s:List Typ}{t:Typ}{u:List Typ}{w:World}{x:Mod}
theorem qE {P:Prop} (h:P:=by
 go_enter Tryz.func227,Tryz.ntmps227
 go_wp2_with (first|(go_at_call 264;with_reducible refine(A0.out _).mono ?_;rintro e w1 ⟨rfl,hb1⟩;obtain⟨hc1,-⟩:=qCU hb1;have hz1:w.heap.size+1<w1.heap.size:=by {have:=hb1.size;simp at this;omega};have hz0:w.heap.size<w1.heap.size:=by omega)|(go_at_call 264;with_reducible refine(C0.out _).mono ?_;rintro e w2 ⟨rfl,hb2⟩;obtain⟨hc2,-⟩:=qCU hb2))
 go_ret;exact⟨rfl,((((qBO _ _).alloc (qBL _) _).alloc (by simp) _).trans (hb1.mono (by simp;omega))).trans (hb2.mono (by omega))⟩):P:=h
theorem qd {P:Prop} (h:P:=by
 replace A0:=qBK (by have:=A0.out;rw[hra] at this;exact this);clear hra
 go_enter Tryz.func227,Tryz.ntmps227
 go_wp2_with (first|(go_at_call 264;with_reducible refine(A0.out _).mono ?_;rintro e w1 ⟨rfl,hb1⟩;obtain⟨hc1,-⟩:=qCU hb1;have hz1:w.heap.size+1<w1.heap.size:=by {have:=hb1.size;simp at this;omega};have hz0:w.heap.size<w1.heap.size:=by omega))
 go_ret;exact⟨rfl,(((qBO _ _).alloc (qBL _) _).alloc (by simp) _).trans (hb1.mono qK)⟩):P:=h
theorem zZ {P:Prop} (h:P:=by
 go_enter Tryz.func264,Tryz.ntmps264
 exact qF):P:=h
theorem kref (k n:Int) (w:World):Calls Tryz.prog 264 #[.agg #[.int .i64 k,.int .i64 n]] w fun e w'=>e= .returned (.bool (refB k))∧Below w.heap.size w w':=by
 by_cases h2:k=2
 · subst h2
   exact zZ
 by_cases h3:k=3
 · subst h3
   exact zZ
 by_cases h4:k=4
 · subst h4
   exact zZ
 by_cases h6:k=6
 · subst h6
   exact zZ
 by_cases h7:k=7
 · subst h7
   exact zZ
 have e:refB k=false:=by simp[refB,h2,h3,h4,h6,h7]
 rw[e];clear e
 go_enter Tryz.func264,Tryz.ntmps264
 go_wp2_with fail
 go_ret;exact⟨rfl,(qBO _ _).alloc (qBL _) _⟩
theorem ksub (a b c d:Int) (w:World):Calls Tryz.prog 227 #[.agg #[.int .i64 a,.int .i64 b],.agg #[.int .i64 c,.int .i64 d]] w fun e w'=>e= .returned (.bool (subB a b c d))∧Below w.heap.size w w':=by
 have A0:=qBK (fun w=>kref a b w);have C0:=qBK (fun w=>kref c d w)
 by_cases h8:c=8
 · subst h8
   rw[show subB a b 8 d=true by simp[subB]]
   go_enter Tryz.func227,Tryz.ntmps227
   go_wp2_with fail
   all_goals(go_ret;exact⟨rfl,((qBO _ _).alloc (qBL _) _).alloc (by simp) _⟩)
 have e8:(c==8)=false:=by simpa using h8
 by_cases hac:a=c
 · subst hac
   by_cases hbd:b=d
   · subst hbd
     rw[show subB a b a b=true by simp[subB]]
     go_enter Tryz.func227,Tryz.ntmps227
     go_wp2_with fail
     go_ret;exact⟨rfl,((qBO _ _).alloc (qBL _) _).alloc (by simp) _⟩
   have hne:(b==d)=false:=by simpa using hbd
   cases hra:refB a
   · rw[show subB a b a d=false by simp[subB,hra,hne,e8]]
     exact qd
   cases hrc:refB a
   · rw[show subB a b a d=false by simp[subB,hrc,hne,e8]]
     replace A0:=qBK qu;replace C0:=qBK zJ;clear hra hrc;exact qE
   by_cases h6:a=6
   · rw[show subB a b a d=true by simp only[subB,hra,hrc];simp[h6]]
     replace A0:=qBK qu;replace C0:=qBK zJ;clear hra hrc;have e6:(a==6)=true:=by simpa using h6
     clear h6;exact qE
   rw[show subB a b a d=(a==7) by simp[subB,hra,hrc,h6,hne,e8]];replace A0:=qBK qu;replace C0:=qBK zJ;clear hra hrc;have e6:(a==6)=false:=by simpa using h6
   clear h6;exact qE
 have hne:(a==c)=false:=by simpa using hac
 cases hra:refB a
 · rw[show subB a b c d=false by simp[subB,hra,hne,e8]]
   exact qd
 cases hrc:refB c
 · rw[show subB a b c d=false by simp[subB,hrc,hne,e8]]
   replace A0:=qBK qu;replace C0:=qBK zJ;clear hra hrc;exact qE
 by_cases h6:a=6
 · rw[show subB a b c d=true by simp only[subB,hra,hrc];simp[h6]]
   replace A0:=qBK qu;replace C0:=qBK zJ;clear hra hrc;have e6:(a==6)=true:=by simpa using h6
   clear h6;exact qE
 rw[show subB a b c d=(c==7) by simp[subB,hra,hrc,h6,hne,e8]];replace A0:=qBK qu;replace C0:=qBK zJ;clear hra hrc;have e6:(a==6)=false:=by simpa using h6
 clear h6
 go_enter Tryz.func227,Tryz.ntmps227
 go_wp2_with (first|(go_at_call 264;with_reducible refine(A0.out _).mono ?_;rintro e w1 ⟨rfl,hb1⟩;obtain⟨hc1,-⟩:=qCU hb1;have hz1:w.heap.size+1<w1.heap.size:=by {have:=hb1.size;simp at this;omega};have hz0:w.heap.size<w1.heap.size:=by omega)|(go_at_call 264;with_reducible refine(C0.out _).mono ?_;rintro e w2 ⟨rfl,hb2⟩;obtain⟨hc2,-⟩:=qCU hb2))
 go_ret;exact⟨rfl,((((qBO _ _).alloc (qBL _) _).alloc (by simp) _).trans (hb1.mono qK)).trans (hb2.mono (by omega))⟩
theorem qCn (A B:Option Addr) (n m c d:Nat) (xs ys:List Typ) (w:World) (hl:xs.length=n) (hm:ys.length=m) (h:Sq typL (·<w.heap.size) w A xs) (h':Sq typL (·<w.heap.size) w B ys) (hn2:n≤9223372036854775807) (hm2:m≤9223372036854775807):
 Calls Tryz.prog 226 #[.slice A n c,.slice B m d,.func (.func 227) #[] #[]] w (Tells (belowT xs ys) w):=by
 refine qA9 ?_;intro HL HM HS HT;clear hl hm h h'
 by_cases hnm:n=m
 · subst hnm
   go_enter Tryz.func226,Tryz.ntmps226
   go_wp2_with fail
   go_loopw [17] (fun i wr=>∃k:Nat,k≤n∧i= .int .i64 (k:Nat)∧belowT (xs.take k) (ys.take k)=true∧Below w.heap.size w wr) (fun i _=>n-(intOf i).toNat)
   case atStart=>exact⟨0,qBU _,rfl,by simp[belowT],qBO _ _⟩
   case round=>
    obtain⟨k,hk,rfl,heq,hbel⟩:=hrel;have HE:=qBK heq;refine qAD ?_;intro HB hs;clear heq hbel
    by_cases hlt:k<n
    · skip
      refine jG ?_;intro x hx;refine qAV ?_;intro y hy;obtain⟨a,cs,rfl,hab,hc,hr⟩:=HS.out.at hx;obtain⟨b,cs2,rfl,hbb,hc2,hr2⟩:=HT.out.at hy;have HX:=qBK hx;have HY:=qBK hy;clear hx hy;obtain⟨rfl,-,-⟩:=hr;obtain⟨rfl,-,-⟩:=hr2;refine jf ?_;intro c0 c1;rw[qBT a (k*2) 1 (by omega)] at c1;have k0:=fun ob=>((HB.out.alloc hs ob).cell (p:=b.add (k*2)) zS).trans (hc2 0 _ rfl);have k1:=fun ob=>((HB.out.alloc hs ob).cell (p:=b.add (k*2+1)) zS).trans (hc2 1 _ rfl);rw[qBT b (k*2) 1 (by omega)] at k1;have HP:Hid (∀w1,Calls Tryz.prog 227 #[.agg #[.int .i64 x.1,.int .i64 x.2],.agg #[.int .i64 y.1,.int .i64 y.2]] w1 (Tells (subT x y) w1)):=fun w1=>ksub x.1 x.2 y.1 y.2 w1;clear hc hc2
      cases hg:subT x y
      all_goals
       rw[hg] at HP;have HG:=qBK hg;clear hg
       go_wp2_with (first
        |(go_at_call 227
          refine(HP.out _).mono ?_;rintro e w2 ⟨rfl,hb2⟩;have Hb2:=qBK (((HB.out.alloc hs _).alloc qK _).trans (hb2.mono qK));clear hb2))
      · go_ret
        exact⟨by rw[qMY HX.out HY.out HG.out];rfl,Hb2.out⟩
      · refine⟨⟨k+1,by omega,by simp,qKW HE.out HX.out HY.out HG.out,Hb2.out⟩,by simp[intOf];omega⟩
    · obtain rfl:k=n:=by omega
      go_wp2_with fail
      go_ret;refine⟨?_,HB.out⟩;have e:=HE.out;rw[qBS qa,qBS (by rw[HM.out];exact qBL _)] at e;rw[e]
      rfl
 · refine j9 ?_;intro h1 h2 HNM
   clear hnm
   go_enter Tryz.func226,Tryz.ntmps226
   go_wp2_with fail
   go_ret;refine⟨?_,qBO _ _⟩;rw[qGR (fun e=>HNM.out zz)]
   rfl
theorem qOF (n:Nat) (w:World) (hn:n≤1000000000):
 Calls Tryz.prog 155 #[.slice none 0 0,.int .i64 (n:Nat)] w fun e w'=>∃v,e= .returned v∧w'.ownsRow w.heap.size 61 2 v 0 (T2 [])∧Below w.heap.size w w':=by
 rcases Nat.eq_zero_or_pos n with h|h
 · subst h
   go_enter Tryz.func155,Tryz.ntmps155
   go_wp2
   exact qw
 · go_enter Tryz.func155,Tryz.ntmps155
   go_wp2_with (at_builtin
                refine qGF _ rfl (.tmp 20) (.tmp 21) rfl n h hn rfl rfl ?_;intro G w1 hG hG2 hown hb;have hG3:G≤9223372036854775807:=by unfold maxLen at hG2;omega
                have HO:=qBK hown;clear hown hG2)
   go_ret;exact⟨_,rfl,HO.out,hb⟩
theorem qEc (xss:List (List Typ)) (k:Nat):(xss.take k).flatten.length≤xss.flatten.length:=by
 conv=>rhs;rw[←List.take_append_drop k xss,List.flatten_append]
 rw[List.length_append]
 omega
theorem qF4 {xss:List (List Typ)} {x:List Typ} (h:xss[k]? =some x):(xss.take (k+1)).flatten=(xss.take k).flatten++x:=by
 obtain⟨hk,rfl⟩:=qBM.1 h;rw[qBW hk,List.flatten_append];simp
theorem qDc (A:Option Addr) (n c:Nat) (xss:List (List Typ)) (w:World) (hl:xss.length=n) (hR:Sq tysL (·<w.heap.size) w A xss) (hn:xss.flatten.length≤1000000) (hn2:n≤1000000):
 Calls Tryz.prog 98 #[.slice A n c] w fun e w'=>∃v,e= .returned v∧w'.ownsRow w.heap.size 61 2 v xss.flatten.length (T2 xss.flatten)∧Below w.heap.size w w':=by
 refine qBB ?_;intro HL HR;clear hl hR
 go_enter Tryz.func98,Tryz.ntmps98
 go_wp2_with fail
 go_loop [3,11] (fun s i=>∃k:Nat,k≤n∧i= .int .i64 (k:Nat)∧s= .int .i64 (((xss.take k).flatten.length:Nat):Int)) (fun _ i=>n-(intOf i).toNat)
 case atStart=>exact⟨0,qBU _,rfl,by simp⟩
 case round=>
  obtain⟨k,hk,rfl,rfl⟩:=hrel;have hle:=qEc xss k;obtain⟨m,hm⟩:∃m,(xss.take k).flatten.length=m:=⟨_,rfl⟩;rw[hm] at hle⊢;have HM:=qBK hm;clear hm
  by_cases hlt:k<n
  · obtain⟨x,hx⟩:∃x,xss[k]? =some x:=⟨xss[k]'qU,List.getElem?_eq_getElem _⟩
    obtain⟨a,cs,rfl,hab,hc,hr⟩:=HR.out.at hx;obtain⟨A2,d2,rfl,-,-,-⟩:=hr;have hcell:=qB9 (K:=tysL.k) rfl (hc 0 _ rfl);clear hc;have HF:=qBK (qF4 hx);have hle2:=qEc xss (k+1);rw[HF.out,List.length_append,HM.out] at hle2;clear hx
    go_wp2_with fail
    refine⟨⟨k+1,by omega,by simp,?_⟩,by simp[intOf];omega⟩;rw[HF.out,List.length_append,HM.out];simp
  · obtain rfl:k=n:=by omega
    have HE:Hid (m=xss.flatten.length):=by
     show m=xss.flatten.length
     rw[←HM.out,qBS qa]
    go_wp2_with fail
    refine(qOF m w (by omega)).mono ?_;rintro e w1 ⟨v1,rfl,hown1,hb1⟩;refine qAp ?_;intro HO1 HB1;clear hown1 hb1
    go_wp2_with fail
    go_loopw [6,27] (fun s i wr=>∃j:Nat,j≤k∧i= .int .i64 (j:Nat)∧wr.ownsRow w.heap.size 61 2 s (xss.take j).flatten.length (T2 (xss.take j).flatten)∧Below w.heap.size w wr) (fun _ i _=>k-(intOf i).toNat)
    case atStart=>exact⟨0,qBU _,rfl,by simpa using HO1.out,HB1.out⟩
    case round=>
     obtain⟨j,hj,rfl,hown,hbel⟩:=hrel;have HO:=qBK hown;refine qAD ?_;intro HB hs;clear hown hbel;have hlej:=qEc xss j
     by_cases hlt2:j<k
     · obtain⟨x,hx⟩:∃x,xss[j]? =some x:=⟨xss[j]'(by rw[HL.out];exact hlt2),List.getElem?_eq_getElem _⟩
       obtain⟨a,cs,rfl,hab,hc,hr⟩:=HR.out.at hx;obtain⟨A2,d2,rfl,-,-,hsq⟩:=hr;have hcell2:=(HB.out.cell (p:=a.add j) qD).trans (qB9 (K:=tysL.k) rfl (hc 0 _ rfl));clear hc;have HF:=qBK (qF4 hx);have hle2:=qEc xss (j+1);rw[HF.out,List.length_append] at hle2;have HY:=qBK hsq;clear hx hsq;obtain⟨q,hq⟩:∃q,(xss.take j).flatten=q:=⟨_,rfl⟩;have HQ:=qBK hq;have HO2:Hid (wr.ownsRow w.heap.size 61 2 u6 q.length (T2 q)):=by
        show wr.ownsRow w.heap.size 61 2 u6 q.length (T2 q)
        rw[←hq];exact HO.out
       rw[hq] at hle2 hlej;clear hq HO
       go_wp2_with (at_builtin
                    refine qDi _ rfl (.tmp 31) (.tmp 32) rfl w.heap.size u6 q.length q rfl HO2.out A2 x.length d2 x rfl rfl (·<w.heap.size) (HY.out.below HB.out (qBL _)) (by omega) hs ?_;intro v2 w2 hown2 hg2 _;have HO3:=qBK hown2;clear hown2)
       refine⟨⟨j+1,by omega,by simp,?_,HB.out.grown hg2 hs (fun i hi=>(HO2.out.lt i hi).1)⟩,by simp[intOf];omega⟩;rw[HF.out,HQ.out,List.length_append];exact HO3.out
     · obtain rfl:j=k:=by omega
       go_wp2_with fail
       go_ret;refine⟨_,rfl,?_,HB.out⟩;have:=HO.out;rw[qBS qa] at this;exact this
def Moved (r:Option (List Typ)) (w:World) (e:Ending) (w':World):Prop:=
 Below w.heap.size w w'∧((r=none∧e= .returned (.tuple #[.slice none 0 0,.bool false]))∨∃t v,r=some t∧e= .returned (.tuple #[v,.bool true])∧w'.ownsRow w.heap.size 61 2 v t.length (T2 t))
theorem qDu (h:s.length<ins.length):movB s ins outs=none:=by
 rw[movB,if_neg]
 omega
theorem qIb {b:Nat} (hb:s.length-ins.length=b) (h:belowT (s.drop b) ins=false):movB s ins outs=none:=by
 rw[movB,if_neg];rw[hb,h];simp
theorem qGj {b:Nat} (hb:s.length-ins.length=b) (h:8<b+outs.length):movB s ins outs=none:=by
 rw[movB,if_neg]
 omega
theorem qIa {b:Nat} (hb:s.length-ins.length=b) (hl:ins.length≤s.length) (h:belowT (s.drop b) ins=true) (h8:b+outs.length≤8):movB s ins outs=some (s.take b++outs):=by
 rw[movB,hb,if_pos ⟨hl,h8,h⟩]
theorem qKl {S:Nat→Prop} {D:Option Addr} {ts:List Typ} {b:Nat} (h:Sq typL S w D ts) (D':Option Addr) (h':b<ts.length→D'=D.map (·.add (b*2))):Sq typL S w D' (ts.drop b):=fun hn=>by
 have hl:(ts.drop b).length=ts.length-b:=by simp
 rw[h' (by omega)];exact h.drop b hn
theorem qHH {x:Typ} (h:s.reverse=x::r):topB s 0=x:=by
 have e:s=r.reverse++[x]:=by rw[←List.reverse_reverse s,h];simp
 subst e;simp[topB]
theorem topB_1 {x y:Typ} (h:s.reverse=x::y::r):topB s 1=y:=by
 have e:s=r.reverse++[y,x]:=by rw[←List.reverse_reverse s,h];simp
 subst e;simp[topB]
def chgB (m:Mod) (f:Fn) (i:Ins) (s:List Typ):List Typ×List Typ:=
 if i.1=6 then ([topB s 0],[topB s 0,topB s 0])
 else if i.1=7 then ([topB s 1,topB s 0],[topB s 0,topB s 1])
 else if i.1=41 then ([(5,(topB s 0).2)],[])
 else (ruleB m f i s).getD ([],[])
theorem qNu {α:Type} [Decidable c] {a b:Option α} (ha:∃p,a=some p) (hb:∃p,b=some p):∃p,(if c then a else b)=some p:=by
 split
 · exact ha
 · exact hb
theorem qLS (h0:0≤i.2.1) (hn:namedB m f i=true) (h6:i.1≠6) (h7:i.1≠7) (h41:i.1≠41):∃p,ruleB m f i s=some p:=by
 by_cases h25:i.1=25
 · simp[namedB,h25] at hn
   have hj:i.2.1.toNat<m.funcs.length:=by omega
   exact⟨(_,_),by simp[ruleB,h25,hj];exact⟨rfl,rfl⟩⟩
 by_cases h27:i.1=27
 · simp[namedB,h27] at hn
   have hj:i.2.1.toNat<m.imps.length:=by omega
   exact⟨(_,_),by simp[ruleB,h27,hj];exact⟨rfl,rfl⟩⟩
 by_cases h28:i.1=28
 · simp[namedB,h28] at hn
   have hj:i.2.1.toNat<m.recs.length:=by omega
   exact⟨(_,_),by simp[ruleB,h28,hj];exact⟨rfl,rfl⟩⟩
 · simp only[ruleB,h6,h7,h41,h25,h27,h28,if_false]
   repeat(first|refine qNu ⟨_,rfl⟩ ?_|exact⟨_,rfl⟩)
theorem qM1 (h0:0≤i.2.1) (hn:namedB m f i=true):(match ruleB m f i s with|none=>none|some p=>movB s p.1 p.2)=movB s (chgB m f i s).1 (chgB m f i s).2:=by
 by_cases h6:i.1=6
 · cases hs:s.reverse with
   |nil=>
    obtain rfl:s=[]:=by simpa using hs
    rw[qDu (by simp[chgB,h6])];simp[ruleB,h6]
   |cons x r=>simp[ruleB,chgB,h6,hs,qHH hs]
 by_cases h7:i.1=7
 · cases hs:s.reverse with
   |nil=>
    obtain rfl:s=[]:=by simpa using hs
    rw[qDu (by simp[chgB,h7])];simp[ruleB,h7]
   |cons x r=>
    cases r with
    |nil=>
     have hl:s.length=1:=by rw[←List.length_reverse,hs];rfl
     rw[qDu (by simp[chgB,h7,hl])];simp[ruleB,h7,hs]
    |cons y r=>simp[ruleB,chgB,h7,hs,qHH hs,topB_1 hs]
 by_cases h41:i.1=41
 · cases hs:s.reverse with
   |nil=>
    obtain rfl:s=[]:=by simpa using hs
    rw[qDu (by simp[chgB,h41])];simp[ruleB,h41]
   |cons x r=>
    have e:s=r.reverse++[x]:=by rw[←List.reverse_reverse s,hs];simp
    by_cases h5:x.1=5
    · have ex:(5,x.2)=x:=Prod.ext h5.symm rfl
      simp[ruleB,chgB,h41,hs,qHH hs,h5,ex]
    · have hb:belowT (s.drop (s.length-1)) [(5,x.2)]=false:=by
       subst e;simp[belowT,subT,subB,refB,h5]
      rw[qIb (b:=s.length-1) (by simp[chgB,h41]) (by simpa[chgB,h41,qHH hs] using hb)];simp[ruleB,h41,hs,h5]
 · obtain⟨p,hp⟩:=qLS (s:=s) h0 hn h6 h7 h41
   simp[chgB,h6,h7,h41,hp]
theorem ins_chg {pc:Nat} (h0:0≤i.2.1) (hn:namedB m f i=true):
 insB8 m f i pc s=(match movB s (chgB m f i s).1 (chgB m f i s).2 with|none=>(4,[],[])|some t=>match nextB f i pc with|none=>(1,[],[])|some l=>(0,t,l)):=by
 rw[←qM1 h0 hn,insB8]
 cases ruleB m f i s with
 |none=>rfl
 |some p=>rfl
def follB (i:Ins) (pc:Int):List Int:=if i.1=26 then [] else if i.1=23 then [i.2.1] else if i.1=24 then [pc+1,i.2.1] else [pc+1]
def Nums (l:List Int) (w:World) (e:Ending) (w':World):Prop:=Below w.heap.size w w'∧∃v,e= .returned v∧w'.ownsRow w.heap.size 3 1 v l.length (Is l)
theorem qIW {g:Nat} {x:Int} (h:Blk w g 3 #[.int .i64 x]) (hg:N≤g):w.ownsRow N 3 1 (.slice (some ⟨g,0,none⟩) 1 1) 1 (Is [x]):=
 ⟨rfl,.inr ⟨g,1,_,rfl,hg,h,qBL _,by simp[maxLen],rfl,rfl⟩⟩
theorem qNT {g:Nat} {x y:Int} (h:Blk w g 3 #[.int .i64 x,.int .i64 y]) (hg:N≤g):w.ownsRow N 3 1 (.slice (some ⟨g,0,none⟩) 2 2) 2 (Is [x,y]):=
 ⟨rfl,.inr ⟨g,2,_,rfl,hg,h,qBL _,by simp[maxLen],rfl,rfl⟩⟩
theorem qKE (o a b pc:Int) (w:World) (hp:0≤pc) (hp2:pc≤1000000):Calls Tryz.prog 224 #[.agg #[.int .i64 o,.int .i64 a,.int .i64 b],.int .i64 pc] w (Nums (follB (o,a,b) pc) w):=by
 by_cases h26:o=26
 · subst h26
   go_enter Tryz.func224,Tryz.ntmps224
   go_wp2_with fail
   go_ret;exact⟨qBe _ _,_,rfl,⟨rfl,.inl ⟨rfl,rfl⟩⟩⟩
 by_cases h23:o=23
 · subst h23
   go_enter Tryz.func224,Tryz.ntmps224
   go_wp2_with fail
   go_ret;exact⟨(qBe _ _).alloc (by simp) _,_,rfl,qIW (qBl (by simp)) (by simp)⟩
 by_cases h24:o=24
 · subst h24
   go_enter Tryz.func224,Tryz.ntmps224
   go_wp2_with fail
   go_ret;exact⟨(qBe _ _).alloc (by simp) _,_,rfl,qNT (qBl (by simp)) (by simp)⟩
 · have e26:(o==26)=false:=by simpa using h26
   have e23:(o==23)=false:=by simpa using h23
   have e24:(o==24)=false:=by simpa using h24
   have HF:Hid (follB (o,a,b) pc=[pc+1]):=by show follB _ _=_;simp[follB,h26,h23,h24]
   clear h26 h23 h24
   go_enter Tryz.func224,Tryz.ntmps224
   go_wp2_with fail
   go_ret;refine⟨(qBe _ _).alloc (by simp) _,_,rfl,?_⟩;rw[HF.out];exact qIW (qBl (by simp)) (by simp)
theorem qJ6 (A:Option Addr) (n c:Nat) (l:List Int) (y:Int) (w:World) (hl:l.length=n) (hn:n≤1000) (h:∀j x,l[j]? =some x→∃a,A=some a∧w.cell? (a.add j)=some (.int .i64 x)):
 Calls Tryz.prog 263 #[.slice A n c,.int .i64 y] w fun e w'=>∃z:Int,e= .returned (.int .i64 z)∧w'=w∧(0≤z↔y∈l):=by
 refine j6 ?_;intro HL HS;clear hl h
 go_enter Tryz.func263,Tryz.ntmps263
 go_wp2_with fail
 go_loop [8] (fun i=>∃k:Nat,k≤n∧i= .int .i64 (k:Nat)∧¬y∈l.take k) (fun i=>n-(intOf i).toNat)
 case atStart=>exact⟨0,qBU _,rfl,by simp⟩
 case round=>
  obtain⟨k,hk,rfl,hno⟩:=hrel;have HN:=qBK hno;clear hno
  by_cases hlt:k<n
  · obtain⟨x,hx⟩:∃x,l[k]? =some x:=⟨l[k]'qU,List.getElem?_eq_getElem _⟩
    obtain⟨a,rfl,hc⟩:=HS.out k x hx;have HX:=qBK hx;clear hx
    by_cases hxy:y=x
    · subst hxy
      go_wp2_with fail
      go_ret;exact⟨_,rfl,rfl,fun _=>qBQ HX.out,fun _=>by simp⟩
    · have e1:(y==x)=false:=by simpa using hxy
      have HXY:=qBK hxy;clear hxy
      go_wp2_with fail
      refine⟨⟨k+1,by omega,by simp,?_⟩,by simp[intOf];omega⟩;obtain⟨hk2,e⟩:=qBM.1 HX.out;rw[qBW hk2,e];simp only[List.mem_append,List.mem_singleton,not_or];exact⟨HN.out,HXY.out⟩
  · obtain rfl:k=n:=by omega
    go_wp2_with fail
    go_ret;refine⟨_,rfl,rfl,fun h=>absurd h (by omega),fun h=>absurd h ?_⟩;have:=HN.out
    rwa [qBS qa] at this
theorem qGQ (A:Option Addr) (n c:Nat) (l:List Int) (y:Int) (w:World) (hl:l.length=n) (hn:n≤1000) (h:∀j x,l[j]? =some x→∃a,A=some a∧w.cell? (a.add j)=some (.int .i64 x)):
 Calls Tryz.prog 225 #[.slice A n c,.int .i64 y] w fun e w'=>e= .returned (.bool (decide (y∈l)))∧w'=w:=by
 have HI:=qBK (qJ6 A n c l y w hl hn h);clear h hl hn
 go_enter Tryz.func225,Tryz.ntmps225
 go_wp2_with fail
 refine(HI.out).mono ?_;rintro e w1 ⟨z,rfl,rfl,hz⟩;have HZ:=qBK hz;clear hz
 go_wp2_with fail
 go_ret;refine⟨?_,rfl⟩;have:decide (0≤z)=decide (y∈l):=by rw[decide_eq_decide];exact HZ.out
 rw[←this]
 rfl
theorem qEW {v:Value} (h:w.ownsRow N 3 1 v n (Is l)):∃A c,v= .slice A n c∧n=l.length∧n≤c∧(∀j x,l[j]? =some x→∃a,A=some a∧N≤a.block∧a.block<w.heap.size∧w.cell? (a.add j)=some (.int .i64 x)):=by
 have hn:n=l.length:=by have:=h.1;rw[qMd] at this;omega
 rcases h.2 with⟨rfl,h0⟩|⟨g,cap,cur,rfl,hb,hg,hnc,hcm,_,_⟩
 · refine⟨none,0,by rw[h0],hn,by omega,fun j x hx=> ?_⟩
   have:=(qBM.1 hx).1
   omega
 · exact⟨some ⟨g,0,none⟩,cap,rfl,hn,hnc,fun j x hx=>⟨_,rfl,hb,(Array.getElem?_eq_some_iff.1 hg).1,h.cells rfl j _ (Is_get hx)⟩⟩
theorem qCl (h:checkN x=0) (hf:fn∈x.funcs):fn.args.length≤4∧fn.locs.length≤8∧fn.code.length≤64∧∀i∈fn.code,goodIn i=true∧namedB x fn i=true:=by
 have hF:=qBw.1 (qBo h);have ho:=hF.funcs fn hf;simp only[fnOk,Bool.and_eq_true,qB0] at ho;have hb:badM x=false:=by
  cases hb:badM x
  · rfl
  · rw[qGA (qBo h) hb] at h;cases h
 refine⟨by omega,by omega,by omega,fun i hi=>⟨ho.2.2 i hi,?_⟩⟩
 cases hn:namedB x fn i
 · rw[qG9 hf (qOi hi hn)] at hb;cases hb
 · rfl
theorem qMw {p:Imp} (h:checkN x=0) (hf:p∈x.imps):p.args.length≤4:=by
 have ho:=(qBw.1 (qBo h)).imps p hf;simp only[impOk,Bool.and_eq_true,qB0] at ho
 omega
theorem qMv (h:checkN x=0) (hf:r∈x.recs):r.length≤6:=by
 have ho:=(qBw.1 (qBo h)).recs r hf;simp only[recOk,qB0] at ho
 omega
def short2 (p:List Typ×List Typ):Prop:=p.1.length≤8∧p.2.length≤8
theorem qEp [Decidable c] {a b:List Typ×List Typ} (ha:short2 a) (hb:short2 b):short2 (if c then a else b):=by
 split
 · exact ha
 · exact hb
theorem qJd [Decidable c] {a b:Option (List Typ×List Typ)} (ha:short2 (a.getD ([],[]))) (hb:short2 (b.getD ([],[]))):short2 ((if c then a else b).getD ([],[])):=by
 split
 · exact ha
 · exact hb
theorem chg_len (h:checkN x=0):short2 (chgB x f i s):=by
 have e0:short2 ((none:Option (List Typ×List Typ)).getD ([],[])):=⟨by simp,by simp⟩;unfold chgB;refine qEp ⟨by simp,by simp⟩ (qEp ⟨by simp,by simp⟩ (qEp ⟨by simp,by simp⟩ ?_));unfold ruleB
 repeat(first
  |(refine qJd ?_ ?_
    (first
     |(refine⟨?_,?_⟩<;>(simp<;>done))
     |(split
       · rename_i g hg
         first
         |exact⟨by have:=(qCl h (qBQ hg)).1;simp;omega,by simp⟩
         |exact⟨by have:=qMw h (qBQ hg);simp;omega,by simp⟩
         |exact⟨by have:=qMv h (qBQ hg);simp;omega,by simp⟩
       · exact e0)
     |(split<;>first|exact e0|(refine⟨?_,?_⟩<;>(simp<;>done))|(split<;>first|exact e0|(refine⟨?_,?_⟩<;>(simp<;>done))))))
  |(refine⟨?_,?_⟩<;>(simp<;>done)))
theorem qLl (hn:namedB x f i=true) (hp:p<f.code.length):nextB f i p=if ((f.code.length:Nat):Int)∈follB i (p:Int) then none else some (follB i (p:Int)):=by
 unfold nextB follB
 by_cases h26:i.1=26
 · simp[h26]
 by_cases h23:i.1=23
 · simp[namedB,h23] at hn
   simp[h23]
   omega
 by_cases h24:i.1=24
 · simp[namedB,h24] at hn
   by_cases hq:f.code.length≤p+1
   · have hq2:((f.code.length:Nat):Int)=(p:Int)+1:=by omega
     simp[h24,hq,hq2]
   · have hq2:¬((f.code.length:Nat):Int)=(p:Int)+1:=by omega
     have hq3:¬((f.code.length:Nat):Int)=i.2.1:=by omega
     simp[h24,hq,hq2,hq3]
 · simp only[h26,h23,h24,if_false,List.mem_singleton]
   by_cases hq:f.code.length≤p+1
   · rw[if_pos hq,if_pos (by omega)]
   · rw[if_neg hq,if_neg (by omega)]
def joinT (a b:Typ):Typ:=(joinK a.1 a.2 b.1 b.2,joinN a.1 a.2 b.1 b.2)
theorem qB6 {a b:Typ}:subT a b=true↔(a=b∨b.1=8∨(refB a.1=true∧refB b.1=true∧(a.1=6∨b.1=7))):=by
 obtain⟨a,a'⟩:=a;obtain⟨b,b'⟩:=b;simp only[subT,subB,Bool.or_eq_true,Bool.and_eq_true,beq_iff_eq,Prod.mk.injEq]
 constructor
 · rintro((h|h)|⟨⟨h1,h2⟩,h3⟩)
   · exact .inl h
   · exact .inr (.inl h)
   · exact .inr (.inr ⟨h1,h2,h3⟩)
 · rintro(h|h|⟨h1,h2,h3⟩)
   · exact .inl (.inl h)
   · exact .inl (.inr h)
   · exact .inr ⟨⟨h1,h2⟩,h3⟩
theorem qCb (a b:Typ):(subT a b=true∧joinT a b=b)∨(subT a b=false∧subT b a=true∧joinT a b=a)∨(subT a b=false∧subT b a=false∧refB a.1=true∧refB b.1=true∧joinT a b=(7,0))∨(subT a b=false∧subT b a=false∧¬(refB a.1=true∧refB b.1=true)∧joinT a b=(8,0)):=by
 unfold joinT joinK joinN;rw[show subB a.1 a.2 b.1 b.2=subT a b from rfl,show subB b.1 b.2 a.1 a.2=subT b a from rfl]
 cases h1:subT a b
 · cases h2:subT b a
   · cases h3:refB a.1<;>cases h4:refB b.1<;>simp
   · simp
 · simp
theorem qLo (a b:Typ):subT a (joinT a b)=true:=by
 rcases qCb a b with⟨h,e⟩|⟨_,_,e⟩|⟨_,_,h,_,e⟩|⟨_,_,_,e⟩<;>rw[e]
 · exact h
 · exact qCv a
 · exact qB6.2 (.inr (.inr ⟨h,by decide,.inr rfl⟩))
 · exact qB6.2 (.inr (.inl rfl))
theorem qJ0 (a b:Typ):subT b (joinT a b)=true:=by
 rcases qCb a b with⟨_,e⟩|⟨_,h,e⟩|⟨_,_,_,h,e⟩|⟨_,_,_,e⟩<;>rw[e]
 · exact qCv b
 · exact h
 · exact qB6.2 (.inr (.inr ⟨h,by decide,.inr rfl⟩))
 · exact qB6.2 (.inr (.inl rfl))
theorem qJ1 {a b c:Typ} (h1:subT a c=true) (h2:subT b c=true):subT (joinT a b) c=true:=by
 rcases qCb a b with⟨_,e⟩|⟨_,_,e⟩|⟨n1,n2,ra,rb,e⟩|⟨n1,n2,hr,e⟩<;>rw[e]
 · exact h2
 · exact h1
 · rw[qB6] at h1 h2⊢
   rcases h1 with rfl|h1|⟨_,r1,h1⟩
   · rw[qB6.2 h2] at n2;cases n2
   · exact .inr (.inl h1)
   · rcases h2 with rfl|h2|⟨_,_,h2⟩
     · rw[qB6.2 (.inr (.inr ⟨ra,r1,h1⟩))] at n1;cases n1
     · exact .inr (.inl h2)
     · rcases h1 with h1|h1
       · rw[qB6.2 (.inr (.inr ⟨ra,rb,.inl h1⟩))] at n1;cases n1
       · exact .inr (.inr ⟨by decide,r1,.inr h1⟩)
 · rw[qB6] at h1 h2⊢
   rcases h1 with rfl|h1|⟨ra,r1,h1⟩
   · rw[qB6.2 h2] at n2;cases n2
   · exact .inr (.inl h1)
   · rcases h2 with rfl|h2|⟨rb,_,_⟩
     · rw[qB6.2 (.inr (.inr ⟨ra,r1,h1⟩))] at n1;cases n1
     · exact .inr (.inl h2)
     · exact absurd ⟨ra,rb⟩ hr
def canT (t:Typ):Prop:=t.1=6∨t.1=7∨t.1=8→t.2=0
theorem qOb {a b:Typ} (ha:canT a) (hb:canT b) (h1:subT a b=true) (h2:subT b a=true):a=b:=by
 obtain⟨a,a'⟩:=a;obtain⟨b,b'⟩:=b;simp only[canT] at ha hb;rw[qB6] at h1 h2;simp only[Prod.mk.injEq,refB,Bool.or_eq_true,beq_iff_eq] at h1 h2⊢
 omega
theorem qOa {a b:Typ} (ha:canT a) (hb:canT b):canT (joinT a b):=by
 rcases qCb a b with⟨_,e⟩|⟨_,_,e⟩|⟨_,_,_,_,e⟩|⟨_,_,_,e⟩<;>rw[e]
 · exact hb
 · exact ha
 · intro _;rfl
 · intro _;rfl
def rkT (t:Typ):Nat:=if t.1=8 then 0 else if t.1=7 then 1 else if t.1=6 then 3 else 2
theorem rk_le (t:Typ):rkT t≤3:=by unfold rkT;repeat(first|(split;omega)|omega)
theorem rk_8 (h:t.1=8):rkT t=0:=by simp[rkT,h]
theorem rk_7 (h:t.1=7):rkT t=1:=by simp[rkT,h]
theorem rk_6 (h:t.1=6):rkT t=3:=by simp[rkT,h]
theorem qM5 (h:¬t.1=8):1≤rkT t:=by
 unfold rkT;rw[if_neg h]
 repeat(first|omega|split)
theorem qM4 (h:¬t.1=8) (h':¬t.1=7):2≤rkT t:=by
 unfold rkT;rw[if_neg h,if_neg h'];split<;>omega
theorem rk_low (h:¬t.1=6):rkT t≤2:=by
 unfold rkT;rw[if_neg h]
 repeat(first|omega|split)
theorem rk_join {a b:Typ} (ha:canT a) (hb:canT b):joinT a b=a∨rkT (joinT a b)<rkT a:=by
 rcases qCb a b with⟨h,e⟩|⟨_,_,e⟩|⟨n1,n2,ra,rb,e⟩|⟨n1,n2,hr,e⟩<;>rw[e]
 · by_cases hab:a=b
   · exact .inl hab.symm
   · refine .inr ?_
     have same:a.1=b.1→a.1=6∨a.1=7∨a.1=8→False:=fun h1 h2=>hab (Prod.ext h1 ((ha h2).trans (hb (by rw[←h1];exact h2)).symm));rcases qB6.1 h with h|h8|⟨ra,rb,h6⟩
     · exact absurd h hab
     · rw[rk_8 h8]
       exact qM5 fun h1=>same (h1.trans h8.symm) (.inr (.inr h1))
     · have a8:¬a.1=8:=fun h1=>by rw[h1] at ra;exact absurd ra qp
       by_cases h1:a.1=6
       · rw[rk_6 h1]
         have:=rk_low (t:=b) fun h2=>same (h1.trans h2.symm) (.inl h1)
         omega
       · have h7:b.1=7:=h6.resolve_left h1
         rw[rk_7 h7];exact qM4 a8 fun h2=>same (h2.trans h7.symm) (.inr (.inl h2))
 · exact .inl rfl
 · refine .inr ?_
   have h7:¬a.1=7:=fun h=>by
    rw[qB6.2 (.inr (.inr ⟨rb,ra,.inr h⟩))] at n2
    cases n2
   have h8:¬a.1=8:=fun h1=>by rw[h1] at ra;exact absurd ra qp
   rw[rk_7 (t:=(7,0)) rfl];exact qM4 h8 h7
 · refine .inr ?_
   have h8:¬a.1=8:=fun h=>by
    rw[qB6.2 (.inr (.inl h))] at n2
    cases n2
   rw[rk_8 (t:=(8,0)) rfl];exact qM5 h8
def joinL:List Typ→List Typ→List Typ
 |a::xs,b::ys=>joinT a b::joinL xs ys
 |_,_=>[]
def canL (s:List Typ):Prop:=∀t∈s,canT t
def rkL:List Typ→Nat
 |[]=>0
 |t::ts=>rkT t+rkL ts
theorem qGr (h:a.length=b.length):(joinL a b).length=a.length:=by
 induction a generalizing b with
 |nil=>rfl
 |cons x a ih=>
  cases b with
  |nil=>simp at h
  |cons y b=>simp only[joinL,List.length_cons,ih qy]
theorem qJ3 (h:a.length=b.length):belowT a (joinL a b)=true:=by
 induction a generalizing b with
 |nil=>cases b<;>simp[belowT,joinL] at h⊢
 |cons x a ih=>
  cases b with
  |nil=>simp at h
  |cons y b=>simp only[joinL,belowT,Bool.and_eq_true];exact⟨qLo x y,ih qy⟩
theorem qIl (h:a.length=b.length):belowT b (joinL a b)=true:=by
 induction a generalizing b with
 |nil=>cases b<;>simp[belowT,joinL] at h⊢
 |cons x a ih=>
  cases b with
  |nil=>simp at h
  |cons y b=>simp only[joinL,belowT,Bool.and_eq_true];exact⟨qJ0 x y,ih qy⟩
theorem qIm {c:List Typ} (h1:belowT a c=true) (h2:belowT b c=true):belowT (joinL a b) c=true:=by
 induction a generalizing b c with
 |nil=>
  cases c with
  |nil=>cases b<;>simp[belowT,joinL] at h2⊢
  |cons z c=>simp[belowT] at h1
 |cons x a ih=>
  cases c with
  |nil=>simp[belowT] at h1
  |cons z c=>
   cases b with
   |nil=>simp[belowT] at h2
   |cons y b=>
    simp only[belowT,joinL,Bool.and_eq_true] at h1 h2⊢;exact⟨qJ1 h1.1 h2.1,ih h1.2 h2.2⟩
theorem qJF (ha:canL a) (hb:canL b) (h1:belowT a b=true) (h2:belowT b a=true):a=b:=by
 induction a generalizing b with
 |nil=>cases b<;>simp[belowT] at h1⊢
 |cons x a ih=>
  cases b with
  |nil=>simp[belowT] at h1
  |cons y b=>
   simp only[belowT,Bool.and_eq_true] at h1 h2;rw[qOb (ha x (by simp)) (hb y (by simp)) h1.1 h2.1,ih (fun t ht=>ha t (by simp[ht])) (fun t ht=>hb t (by simp[ht])) h1.2 h2.2]
theorem qMS (ha:canL a) (hb:canL b):canL (joinL a b):=by
 induction a generalizing b with
 |nil=>intro t ht;cases b<;>simp[joinL] at ht
 |cons x a ih=>
  cases b with
  |nil=>intro t ht;simp[joinL] at ht
  |cons y b=>
   intro t ht;simp only[joinL,List.mem_cons] at ht;rcases ht with rfl|ht
   · exact qOa (ha x (by simp)) (hb y (by simp))
   · exact ih (fun t ht=>ha t (by simp[ht])) (fun t ht=>hb t (by simp[ht])) t ht
theorem rkL_le (s:List Typ):rkL s≤3*s.length:=by
 induction s with
 |nil=>simp[rkL]
 |cons t s ih=>
  have:=rk_le t;simp only[rkL,List.length_cons]
  omega
theorem qM7 (ha:canL a) (hb:canL b) (h:a.length=b.length):joinL a b=a∨rkL (joinL a b)<rkL a:=by
 have le:∀{a b:List Typ},canL a→canL b→a.length=b.length→(joinL a b=a∧rkL (joinL a b)=rkL a)∨rkL (joinL a b)<rkL a:=by
  intro a
  induction a with
  |nil=>intro b _ _ _;exact .inl ⟨by cases b<;>rfl,by cases b<;>rfl⟩
  |cons x a ih=>
   intro b ha hb h
   cases b with
   |nil=>simp at h
   |cons y b=>
    have i:=ih (b:=b) (fun t ht=>ha t (by simp[ht])) (fun t ht=>hb t (by simp[ht])) qy;have j:=rk_join (ha x (by simp)) (hb y (by simp));simp only[joinL,rkL];rcases i with⟨i1,i2⟩|i
    · rcases j with j|j
      · exact .inl ⟨by rw[i1,j],by rw[i2,j]⟩
      · exact .inr (by omega)
    · rcases j with j|j
      · exact .inr (by rw[j];omega)
      · exact .inr (by omega)
 rcases le ha hb h with⟨h,_⟩|h
 · exact .inl h
 · exact .inr h
abbrev Shp:=Nat→Option (List Typ)
def leO (a b:Option (List Typ)):Prop:=∀s,a=some s→∃r,b=some r∧belowT s r=true
def leS (S R:Shp):Prop:=∀p,leO (S p) (R p)
theorem qFu (a:Option (List Typ)):leO a a:=fun s h=>⟨s,h,qFA s⟩
theorem qD9 {a b c:Option (List Typ)} (h1:leO a b) (h2:leO b c):leO a c:=fun s hs=>by
 obtain⟨r,hr,k1⟩:=h1 s hs;obtain⟨q,hq,k2⟩:=h2 r hr;exact⟨q,hq,qDe k1 k2⟩
def okAt (m:Mod) (fn:Fn) (S:Shp) (p:Nat):Prop:=∀s,S p=some s→∃i t l,fn.code[p]? =some i∧insB8 m fn i p s=(0,t,l)∧∀k∈l,leO (some t) (S k.toNat)
structure RightF (m:Mod) (fn:Fn) (S:Shp):Prop where
 zero:S 0=some []
 at_:∀p,p<fn.code.length→okAt m fn S p
structure Run (m:Mod) (fn:Fn) (S:Shp):Prop where
 zero:S 0=some []
 out:∀p,fn.code.length≤p→S p=none
 least:∀R,RightF m fn R→leS S R
 can:∀p s,S p=some s→canL s∧s.length≤8
def S0:Shp:=fun p=>if p=0 then some [] else none
theorem qLR (h:0<fn.code.length):Run m fn S0:=by
 refine⟨rfl,fun p hp=> ?_,fun R hR p s hs=> ?_,fun p s hs=> ?_⟩
 · unfold S0;rw[if_neg (by omega)]
 · unfold S0 at hs
   split at hs
   · rename_i hp
     subst hp;injection hs with hs;subst hs;exact⟨[],hR.zero,rfl⟩
   · cases hs
 · unfold S0 at hs
   split at hs
   · injection hs with hs
     subst hs;exact⟨fun t ht=>by simp at ht,by simp⟩
   · cases hs
def Und (m:Mod) (fn:Fn) (p:Nat) (s:List Typ):Prop:=∀R,RightF m fn R→leO (some s) (R p)
theorem Run.und {S:Shp} (h:Run m fn S) (hs:S p=some s):Und m fn p s:=fun R hR=>by
 have:=h.least R hR p
 rwa [hs] at this
theorem qEU {R:Shp} (hR:RightF m fn R) (hs:Und m fn p s) (hi:fn.code[p]? =some i):∃t l,insB8 m fn i p s=(0,t,l)∧∀k∈l,leO (some t) (R k.toNat):=by
 obtain⟨r,hr,hb⟩:=hs R hR s rfl;obtain⟨i',t',l,hi',hf,ht⟩:=hR.at_ p (qBM.1 hi).1 r hr;rw[hi] at hi';injection hi' with hi';subst hi';obtain⟨t,h1,h2⟩:=qLq hb hf;refine⟨t,l,h1,fun k hk q hq=> ?_⟩;injection hq with hq;subst hq;obtain⟨u,hu,h3⟩:=ht k hk t' rfl;exact⟨u,hu,qDe h2 h3⟩
theorem qGa (hs:Und m fn p s) (hi:fn.code[p]? =some i) (he:(insB8 m fn i p s).1≠0):¬∃R,RightF m fn R:=by
 rintro⟨R,hR⟩;obtain⟨t,l,hf,-⟩:=qEU hR hs hi;rw[hf] at he;exact he rfl
theorem qE6 {S:Shp} {t:List Typ} (h:Run m fn S) (hs:Und m fn p s) (hi:fn.code[p]? =some i) (hf:insB8 m fn i p s=(0,t,l)) (hk:(k:Int)∈l) (hu:S k=some u) (hn:u.length≠t.length):¬∃R,RightF m fn R:=by
 rintro⟨R,hR⟩;obtain⟨t',l',hf',ht⟩:=qEU hR hs hi;rw[hf] at hf';simp only[Prod.mk.injEq,true_and] at hf';obtain⟨rfl,rfl⟩:=hf';obtain⟨r,hr,h1⟩:=ht _ hk t rfl;rw[Int.toNat_natCast] at hr;obtain⟨r',hr',h2⟩:=h.least R hR k u hu;rw[hr] at hr';injection hr' with hr';subst hr';exact hn ((qCO h2).trans (qCO h1).symm)
def putS (S:Shp) (k:Nat) (s:List Typ):Shp:=fun p=>if p=k then some s else S p
theorem qCu (S:Shp) (k:Nat) (s:List Typ):putS S k s k=some s:=by simp[putS]
theorem qCm {S:Shp} (h:p≠k):putS S k s p=S p:=by simp[putS,h]
theorem qKp {S:Shp} {t:List Typ} (h:Run m fn S) (hs:Und m fn p s) (hi:fn.code[p]? =some i) (hf:insB8 m fn i p s=(0,t,l)) (hk:(k:Int)∈l) (hu:S k=none) (hc:canL t) (h8:t.length≤8) (hlt:k<fn.code.length):Run m fn (putS S k t):=by
 have hk0:(0:Nat)≠k:=fun e=>by rw[←e,h.zero] at hu;cases hu
 refine⟨by rw[qCm hk0];exact h.zero,fun q hq=>by rw[qCm (by omega)];exact h.out q hq,fun R hR q=> ?_,fun q r hq=> ?_⟩
 · by_cases e:q=k
   · subst e
     rw[qCu];obtain⟨t',l',hf',ht⟩:=qEU hR hs hi;rw[hf] at hf';simp only[Prod.mk.injEq,true_and] at hf';obtain⟨rfl,rfl⟩:=hf';have:=ht _ hk
     rwa [Int.toNat_natCast] at this
   · rw[qCm e]
     exact h.least R hR q
 · by_cases e:q=k
   · subst e
     rw[qCu] at hq;injection hq with hq;subst hq;exact⟨hc,h8⟩
   · rw[qCm e] at hq
     exact h.can q r hq
theorem qIA {S:Shp} {t:List Typ} (h:Run m fn S) (hs:Und m fn p s) (hi:fn.code[p]? =some i) (hf:insB8 m fn i p s=(0,t,l)) (hk:(k:Int)∈l) (hu:S k=some u) (hn:u.length=t.length) (hc:canL t):Run m fn (putS S k (joinL u t)):=by
 have hlt:k<fn.code.length:=by
  rcases Nat.lt_or_ge k fn.code.length with h1|h1
  · exact h1
  · rw[h.out k h1] at hu;cases hu
 refine⟨?_,fun q hq=>by rw[qCm (by omega)];exact h.out q hq,fun R hR q=> ?_,fun q r hq=> ?_⟩
 · by_cases e:0=k
   · subst e
     rw[h.zero] at hu;injection hu with hu;subst hu;rw[qCu]
     cases t<;>rfl
   · rw[qCm e]
     exact h.zero
 · by_cases e:q=k
   · subst e
     rw[qCu];obtain⟨t',l',hf',ht⟩:=qEU hR hs hi;rw[hf] at hf';simp only[Prod.mk.injEq,true_and] at hf';obtain⟨rfl,rfl⟩:=hf';obtain⟨r,hr,h1⟩:=ht _ hk t rfl;rw[Int.toNat_natCast] at hr;obtain⟨r',hr',h2⟩:=h.least R hR q u hu;rw[hr] at hr';injection hr' with hr';subst hr';intro z hz;injection hz with hz;subst hz;exact⟨r,hr,qIm h2 h1⟩
   · rw[qCm e]
     exact h.least R hR q
 · by_cases e:q=k
   · subst e
     rw[qCu] at hq;injection hq with hq;subst hq;obtain⟨h1,h2⟩:=h.can q u hu;exact⟨qMS h1 hc,by rw[qGr hn];exact h2⟩
   · rw[qCm e] at hq
     exact h.can q r hq
theorem qM0 {S T:Shp} (h:Run m fn S) (h':Run m fn T) (hS:RightF m fn S) (hT:RightF m fn T):∀p,S p=T p:=fun p=>by
 cases hs:S p with
 |none=>
  cases ht:T p with
  |none=>rfl
  |some t=>
   obtain⟨r,hr,-⟩:=h'.least S hS p t ht;rw[hs] at hr
   cases hr
 |some s=>
  obtain⟨t,ht,h1⟩:=h.least T hT p s hs;obtain⟨r,hr,h2⟩:=h'.least S hS p t ht;rw[hs] at hr;injection hr with hr;subst hr;rw[ht,qJF (h.can p s hs).1 (h'.can p t ht).1 h1 h2]
def rkO:Option (List Typ)→Nat
 |none=>25
 |some s=>rkL s
def rkS (S:Shp):Nat→Nat
 |0=>0
 |n+1=>rkS S n+rkO (S n)
theorem qKr {S:Shp} (n:Nat):rkS (putS S k s) n+(if k<n then rkO (S k) else 0)=rkS S n+(if k<n then rkL s else 0):=by
 induction n with
 |zero=>simp[rkS]
 |succ n ih=>
  simp only[rkS]
  by_cases e:n=k
  · subst e
    rw[qCu,if_pos (by omega),if_pos (by omega)];rw[if_neg (by omega),if_neg (by omega)] at ih
    show rkS (putS S n s) n+rkL s+rkO (S n)=rkS S n+rkO (S n)+rkL s
    omega
  · rw[qCm e]
    by_cases h:k<n
    · rw[if_pos h,if_pos h] at ih
      rw[if_pos (by omega),if_pos (by omega)]
      omega
    · rw[if_neg h,if_neg h] at ih
      rw[if_neg (by omega),if_neg (by omega)]
      omega
theorem rkS_new {S:Shp} {t:List Typ} (hk:k<n) (hu:S k=none) (h8:t.length≤8):rkS (putS S k t) n<rkS S n:=by
 have h:=qKr (S:=S) (k:=k) (s:=t) n;rw[if_pos hk,if_pos hk,hu] at h;have:=rkL_le t;simp only[rkO] at h
 omega
theorem qM6 {S:Shp} {t:List Typ} (hk:k<n) (hu:S k=some u) (ha:canL u) (hb:canL t) (hn:u.length=t.length) (hne:joinL u t≠u):rkS (putS S k (joinL u t)) n<rkS S n:=by
 have h:=qKr (S:=S) (k:=k) (s:=joinL u t) n;rw[if_pos hk,if_pos hk,hu] at h;have:=(qM7 ha hb hn).resolve_left hne;simp only[rkO] at h
 omega
theorem qDR {r:Int} (h:goodT r t=true):canT t:=by
 obtain⟨k,n⟩:=t;simp only[goodT,goodB] at h;intro hk;simp only at hk⊢;split at h
 · simpa using h
 · split at h
   · omega
   · split at h
     · omega
     · cases h
theorem qDA (h:canT t):canL [t]:=fun u hu=>by simp at hu;subst hu;exact h
theorem qI9 {u:Typ} (h:canT t) (h':canT u):canL [t,u]:=fun v hv=>by simp at hv;rcases hv with rfl|rfl<;>assumption
theorem qJA:canL []:=fun t ht=>by simp at ht
theorem qJB {t:List Typ} (h:canL s) (h':canL t):canL (s++t):=fun u hu=>by
 rcases List.mem_append.1 hu with h1|h1
 · exact h u h1
 · exact h' u h1
theorem qMR (h:canL s) (n:Nat):canL (s.take n):=fun u hu=>h u (List.mem_of_mem_take hu)
theorem qDF (k:Int):canT (k,0):=fun _=>rfl
theorem can_rec (n:Int):canT (4,n):=fun h=>by simp at h
theorem qKF (hc:checkN m=0) (hf:f∈m.funcs):canL f.args∧canL f.locs∧canT f.ret:=by
 have ho:=(qBw.1 (qBo hc)).funcs f hf;simp only[fnOk,Bool.and_eq_true,qB0] at ho;exact⟨fun t ht=>qDR (ho.1.1.1.2 t ht),fun t ht=>qDR (ho.1.2.2 t ht),qDR ho.1.1.2⟩
theorem imp_can {p:Imp} (hc:checkN m=0) (hf:p∈m.imps):canT p.ret:=by
 have ho:=(qBw.1 (qBo hc)).imps p hf;simp only[impOk,Bool.and_eq_true] at ho;exact qDR ho.2
theorem rec_can (hc:checkN m=0) (hf:r∈m.recs):canL r:=by
 have ho:=(qBw.1 (qBo hc)).recs r hf;simp only[recOk,qB0] at ho;exact fun t ht=>qDR (ho.2 t ht)
theorem loc_can (n:Int) (hc:checkN m=0) (hf:f∈m.funcs):canT (locB f n):=by
 obtain⟨h1,h2,-⟩:=qKF hc hf;unfold locB;split
 · exact qDF 8
 · cases e:(f.args++f.locs)[n.toNat]? with
   |none=>exact qDF 8
   |some t=>exact qJB h1 h2 t (qBQ e)
theorem fld_can (a b:Int) (hc:checkN m=0):canT (fldB m a b):=by
 unfold fldB
 cases e:m.recs[a.toNat]? with
 |none=>simp;exact qDF 0
 |some r=>
  simp only[Option.getD_some]
  cases e2:r[b.toNat]? with
  |none=>exact qDF 0
  |some t=>exact rec_can hc (qBQ e) t (qBQ e2)
def canO (o:Option (List Typ×List Typ)):Prop:=∀p,o=some p→canL p.2
theorem qOc [Decidable c] {a b:Option (List Typ×List Typ)} (ha:canO a) (hb:canO b):canO (if c then a else b):=by
 split
 · exact ha
 · exact hb
theorem qCC {i o:List Typ} (h:canL o):canO (some (i,o)):=fun p hp=>by
 injection hp with hp;subst hp;exact h
theorem qEv:canO none:=fun p hp=>by cases hp
theorem qOd (h:canL s) (e:s.reverse=r):canL r:=fun t ht=>h t (List.mem_reverse.1 (by rw[e];exact ht))
theorem qM2 (hc:checkN m=0) (hf:f∈m.funcs) (hs:canL s):canO (ruleB m f i s):=by
 obtain⟨h1,h2,h3⟩:=qKF hc hf;unfold ruleB
 repeat(refine qOc ?_ ?_
        first
        |exact qCC qJA
        |exact qCC (qDA (qDF _))
        |exact qCC (qI9 (qDF _) (qDF _))
        |exact qCC (qDA (loc_can _ hc hf))
        |exact qCC (qDA (fld_can _ _ hc))
        |(split
          · rename_i g hg
            first
            |exact qCC (qDA (qKF hc (qBQ hg)).2.2)
            |exact qCC (qDA (imp_can hc (qBQ hg)))
            |exact qCC (qDA (can_rec _))
          · exact qEv)
        |(split
          · rename_i t r e
            have hr:=qOd hs e
            first
            |exact qCC (qI9 (hr _ (by simp)) (hr _ (by simp)))
            |(split
              · exact qCC qJA
              · exact qEv)
          · exact qEv))
 exact qCC (qDA (qDF _))
theorem qI3 {t:List Typ} (hc:checkN m=0) (hf:f∈m.funcs) (hs:canL s) (h:insB8 m f i p s=(0,t,l)):canL t∧t.length≤8:=by
 unfold insB8 at h;split at h
 · simp at h
 · rename_i ins outs hr
   split at h
   · simp at h
   · rename_i t2 hm
     split at h
     · simp at h
     · simp only[Prod.mk.injEq,true_and] at h
       obtain⟨rfl,-⟩:=h;unfold movB at hm;split at hm
       · rename_i h3
         injection hm with hm;subst hm;refine⟨qJB (qMR hs _) (qM2 hc hf hs _ hr),?_⟩;rw[List.length_append,List.length_take]
         omega
       · cases hm
theorem qER {t:List Typ} (hc:checkN m=0) (hf:f∈m.funcs) (hi:f.code[p]? =some i) (h:insB8 m f i p s=(0,t,l)):∀k∈l,0≤k∧k.toNat<f.code.length:=by
 obtain⟨-,-,-,q4⟩:=qCl hc hf;obtain⟨hg,hn⟩:=q4 i (qBQ hi);obtain⟨o1,x1,y1,e1,e2,e3,-,-,-⟩:=qBm hg;have hp:=(qBM.1 hi).1;have hl:nextB f i p=some l:=by
  unfold insB8 at h;split at h
  · simp at h
  · split at h
    · simp at h
    · split at h
      · simp at h
      · rename_i l' hl
        simp only[Prod.mk.injEq,true_and] at h;rw[hl,h.2]
 intro k hk
 by_cases h26:i.1=26
 · simp[nextB,h26] at hl
   subst hl;simp at hk
 by_cases h23:i.1=23
 · simp[nextB,h23] at hl
   simp[namedB,h23] at hn;subst hl;simp at hk
   omega
 by_cases hlast:f.code.length≤p+1
 · simp[nextB,h26,h23,hlast] at hl
 by_cases h24:i.1=24
 · simp[nextB,h24,hlast] at hl
   simp[namedB,h24] at hn;subst hl;simp at hk
   omega
 · simp[nextB,h26,h23,h24,hlast] at hl
   subst hl;simp at hk
   omega
end Go.Proofs.YtgdbhanhmenmfaaGreat
