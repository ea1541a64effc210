/-
Fp Knd Eft Ctt Fonw Fcp Ffo Ffp Fon1 Fon2 Fon3
-/
import Derived.Test.YtelceoecekfamaaQ01
import Derived.Test.YtelceoecekfamaaQ02
import Derived.Test.YtelceoecekfamaaQ06
import Derived.Deep.RegionHeld3
import Derived.Deep.RegionWith
import Derived.Lib.QuietBelow
import Derived.BigQuiet
set_option linter.unusedSimpArgs false
set_option linter.unusedVariables false
set_option maxRecDepth 100000
set_option maxHeartbeats 4000000
namespace Go.Proofs.Ytelceoecekfamaa
open Go.RowKit
variable {N b:Nat}{c:Prop}{f:Fn}{i:Ins}{ins:List Typ}{m:Mod}{outs r s:List Typ}{w:World}{x:Mod}
theorem qC {P:Prop} (h:P:=by
 go_enter Try.func93,Try.ntmps93
 go_wp2_with (first|(go_at_call 101;with_reducible refine(A0.out _).mono ?_;rintro e w1 ⟨rfl,hb1⟩;obtain⟨hc1,-⟩:=qAg hb1;have hz1:w.heap.size+1<w1.heap.size:=by {have:=hb1.size;simp at this;omega};have hz0:w.heap.size<w1.heap.size:=by omega)|(go_at_call 101;with_reducible refine(C0.out _).mono ?_;rintro e w2 ⟨rfl,hb2⟩;obtain⟨hc2,-⟩:=qAg hb2))
 go_ret;exact⟨rfl,((((qAJ _ _).alloc (qAI _) _).alloc (by simp) _).trans (hb1.mono (by simp;omega))).trans (hb2.mono (by omega))⟩):P:=h
theorem qd {P:Prop} (h:P:=by
 replace A0:=qAF qQ;clear hra
 go_enter Try.func93,Try.ntmps93
 go_wp2_with (first|(go_at_call 101;with_reducible refine(A0.out _).mono ?_;rintro e w1 ⟨rfl,hb1⟩;obtain⟨hc1,-⟩:=qAg hb1;have hz1:w.heap.size+1<w1.heap.size:=by {have:=hb1.size;simp at this;omega};have hz0:w.heap.size<w1.heap.size:=by omega))
 go_ret;exact⟨rfl,(((qAJ _ _).alloc (qAI _) _).alloc (by simp) _).trans (hb1.mono qK)⟩):P:=h
theorem zM {P:Prop} (h:P:=by
 go_enter Try.func101,Try.ntmps101
 exact qB):P:=h
def TypIs (t:Typ) (w:World) (e:Ending) (w':World):Prop:=e= .returned (.agg #[.int .i64 t.1,.int .i64 t.2])∧Below w.heap.size w w'
theorem qDh {B R:Nat} {W:World} {u v:Value} (h:Below B w W) (hR:B≤R):Below B w ((W.setCell ⟨R,0,none⟩ u).setCell ⟨R,1,none⟩ v):=(h.setCell (p:=⟨R,0,none⟩) hR u).setCell (p:=⟨R,1,none⟩) hR v
theorem qAN (w:World) (o:Obj):Below w.heap.size w (w.alloc o):=(qAJ _ w).alloc (qAI _) o
theorem qG6 (k:Int) (w:World):Calls Try.prog 85 #[.int .i64 k] w (TypIs (k,0) w):=by
 go_enter Try.func85,Try.ntmps85
 go_wp2_with fail
 exact bodyPost_ret (v:= .agg #[.int .i64 k,.int .i64 0]) (by simp[results,Try.results85,go_sem]) rfl ⟨rfl,qAN _ _⟩
def topB (s:List Typ) (n:Nat):Typ:=if n<s.length then (s[s.length-1-n]?).getD (8,0) else (8,0)
theorem qFJ (A:Option Addr) (n c k:Nat) (ts:List Typ) (w:World) (hl:ts.length=n) (h:Sq typL (·<w.heap.size) w A ts) (hn:n≤9223372036854775807) (hk:k≤1):
 Calls Try.prog 89 #[.slice A n c,.int .i64 (k:Nat)] w (TypIs (topB ts k) w):=by
 by_cases hkn:k<n
 · obtain⟨t,ht⟩:∃t,ts[n-1-k]? =some t:=⟨ts[n-1-k]'(by omega),List.getElem?_eq_getElem _⟩
   have HT:Hid (topB ts k=t):=by
    show topB ts k=t
    rw[topB,hl,if_pos hkn,ht]
    rfl
   obtain⟨a,cs,rfl,hab,hc,hr⟩:=h.at ht;obtain⟨rfl,-,-⟩:=hr;obtain⟨j,hj⟩:∃j:Nat,n-1-k=j:=⟨_,rfl⟩;rw[hj] at hc;have e1:(n:Int)-1-(k:Int)=(j:Int):=by omega
   have j1:(j:Int)<(n:Int):=by omega
   have k1:¬((n:Int)≤(k:Int)):=by omega
   have c0:=fun ob=>(qAN w ob).cell (p:=a.add (j*2)) qA |>.trans (hc 0 _ rfl);have c1:=fun ob=>(qAN w ob).cell (p:=a.add (j*2+1)) qA |>.trans (hc 1 _ rfl);rw[qAL a (j*2) 1 (by omega)] at c1;clear hc h ht hl hj
   go_enter Try.func89,Try.ntmps89
   go_wp2_with fail
   exact bodyPost_ret (v:= .agg #[.int .i64 t.1,.int .i64 t.2]) (by simp[results,Try.results89,go_sem]) rfl ⟨by rw[HT.out],qAN _ _⟩
 · have HT:Hid (topB ts k=(8,0)):=by
    show topB ts k=(8,0)
    rw[topB,hl,if_neg hkn]
   have hk3:(n:Int)≤(k:Int):=by omega
   have HP:=qAF (fun w=>qG6 8 w);clear h hl
   go_enter Try.func89,Try.ntmps89
   go_wp2_with (first
    |(go_at_call 85
      refine(HP.out _).mono ?_;rintro e w1 ⟨rfl,hb1⟩;have HB:=qAF hb1;obtain⟨hc1,hf1⟩:=qAg hb1;have hs1:w.heap.size<w1.heap.size:=q6;clear hb1))
   exact bodyPost_ret (v:= .agg #[.int .i64 8,.int .i64 0]) (by simp[results,Try.results89,go_sem,hc1,hs1]) rfl ⟨by rw[HT.out],qDh ((qAN _ _).trans (HB.out.mono (by simp))) (qAI _)⟩
def hasB (n:Nat) (k:Int):Bool:=decide (0≤k) && decide (k<(n:Int))
theorem qFG (A:Option Addr) (n c:Nat) (k:Int) (w:World):Calls Try.prog 102 #[.slice A n c,.int .i64 k] w fun e w'=>e= .returned (.bool (hasB n k))∧w'=w:=by
 unfold hasB
 by_cases h0:0≤k
 · go_enter Try.func102,Try.ntmps102
   go_wp2_with fail
   go_ret;exact⟨by simp[h0],rfl⟩
 · go_enter Try.func102,Try.ntmps102
   go_wp2_with fail
   go_ret;exact⟨by simp[h0];omega,rfl⟩
theorem qDX (A:Option Addr) (n c:Nat) (k:Int) (w:World):Calls Try.prog 56 #[.slice A n c,.int .i64 k] w fun e w'=>e= .returned (.bool (hasB n k))∧w'=w:=by
 unfold hasB
 by_cases h0:0≤k
 · go_enter Try.func56,Try.ntmps56
   go_wp2_with fail
   go_ret;exact⟨by simp[h0],rfl⟩
 · go_enter Try.func56,Try.ntmps56
   go_wp2_with fail
   go_ret;exact⟨by simp[h0];omega,rfl⟩
theorem qFH (A:Option Addr) (n c:Nat) (k:Int) (w:World):Calls Try.prog 57 #[.slice A n c,.int .i64 k] w fun e w'=>e= .returned (.bool (hasB n k))∧w'=w:=by
 unfold hasB
 by_cases h0:0≤k
 · go_enter Try.func57,Try.ntmps57
   go_wp2_with fail
   go_ret;exact⟨by simp[h0],rfl⟩
 · go_enter Try.func57,Try.ntmps57
   go_wp2_with fail
   go_ret;exact⟨by simp[h0];omega,rfl⟩
theorem kref (k n:Int) (w:World):Calls Try.prog 101 #[.agg #[.int .i64 k,.int .i64 n]] w fun e w'=>e= .returned (.bool (refB k))∧Below w.heap.size w w':=by
 by_cases h2:k=2
 · subst h2
   exact zM
 by_cases h3:k=3
 · subst h3
   exact zM
 by_cases h4:k=4
 · subst h4
   exact zM
 by_cases h6:k=6
 · subst h6
   exact zM
 by_cases h7:k=7
 · subst h7
   exact zM
 have e:refB k=false:=by simp[refB,h2,h3,h4,h6,h7]
 rw[e];clear e
 go_enter Try.func101,Try.ntmps101
 go_wp2_with fail
 go_ret;exact⟨rfl,(qAJ _ _).alloc (qAI _) _⟩
theorem ksub (a b c d:Int) (w:World):Calls Try.prog 93 #[.agg #[.int .i64 a,.int .i64 b],.agg #[.int .i64 c,.int .i64 d]] w fun e w'=>e= .returned (.bool (subB a b c d))∧Below w.heap.size w w':=by
 have A0:=qAF (fun w=>kref a b w);have C0:=qAF (fun w=>kref c d w)
 by_cases h8:c=8
 · subst h8
   rw[show subB a b 8 d=true by simp[subB]]
   go_enter Try.func93,Try.ntmps93
   go_wp2_with fail
   all_goals(go_ret;exact⟨rfl,((qAJ _ _).alloc (qAI _) _).alloc (by simp) _⟩)
 have e8:(c==8)=false:=by simpa using h8
 by_cases hac:a=c
 · subst hac
   by_cases hbd:b=d
   · subst hbd
     rw[show subB a b a b=true by simp[subB]]
     go_enter Try.func93,Try.ntmps93
     go_wp2_with fail
     exact zG
   have hne:(b==d)=false:=by simpa using hbd
   cases hra:refB a
   · rw[show subB a b a d=false by simp[subB,hra,hne,e8]]
     exact qd
   cases hrc:refB a
   · rw[show subB a b a d=false by simp[subB,hrc,hne,e8]]
     replace A0:=qAF qQ;replace C0:=qAF qY;clear hra hrc;exact qC
   by_cases h6:a=6
   · rw[show subB a b a d=true by simp only[subB,hra,hrc];simp[h6]]
     replace A0:=qAF qQ;replace C0:=qAF qY;clear hra hrc;have e6:(a==6)=true:=by simpa using h6
     clear h6;exact qC
   rw[show subB a b a d=(a==7) by simp[subB,hra,hrc,h6,hne,e8]];replace A0:=qAF qQ;replace C0:=qAF qY;clear hra hrc;have e6:(a==6)=false:=by simpa using h6
   clear h6;exact qC
 have hne:(a==c)=false:=by simpa using hac
 cases hra:refB a
 · rw[show subB a b c d=false by simp[subB,hra,hne,e8]]
   exact qd
 cases hrc:refB c
 · rw[show subB a b c d=false by simp[subB,hrc,hne,e8]]
   replace A0:=qAF qQ;replace C0:=qAF qY;clear hra hrc;exact qC
 by_cases h6:a=6
 · rw[show subB a b c d=true by simp only[subB,hra,hrc];simp[h6]]
   replace A0:=qAF qQ;replace C0:=qAF qY;clear hra hrc;have e6:(a==6)=true:=by simpa using h6
   clear h6;exact qC
 rw[show subB a b c d=(c==7) by simp[subB,hra,hrc,h6,hne,e8]];replace A0:=qAF qQ;replace C0:=qAF qY;clear hra hrc;have e6:(a==6)=false:=by simpa using h6
 clear h6
 go_enter Try.func93,Try.ntmps93
 go_wp2_with (first|(go_at_call 101;with_reducible refine(A0.out _).mono ?_;rintro e w1 ⟨rfl,hb1⟩;obtain⟨hc1,-⟩:=qAg hb1;have hz1:w.heap.size+1<w1.heap.size:=by {have:=hb1.size;simp at this;omega};have hz0:w.heap.size<w1.heap.size:=by omega)|(go_at_call 101;with_reducible refine(C0.out _).mono ?_;rintro e w2 ⟨rfl,hb2⟩;obtain⟨hc2,-⟩:=qAg hb2))
 go_ret;exact⟨rfl,((((qAJ _ _).alloc (qAI _) _).alloc (by simp) _).trans (hb1.mono qK)).trans (hb2.mono (by omega))⟩
theorem qBT (A B:Option Addr) (n m c d:Nat) (xs ys:List Typ) (w:World) (hl:xs.length=n) (hm:ys.length=m) (h:Sq typL (·<w.heap.size) w A xs) (h':Sq typL (·<w.heap.size) w B ys) (hn2:n≤9223372036854775807) (hm2:m≤9223372036854775807):
 Calls Try.prog 92 #[.slice A n c,.slice B m d,.func (.func 93) #[] #[]] w (Tells (belowT xs ys) w):=by
 have HL:=qAF hl;have HM:=qAF hm;have HS:=qAF h;have HT:=qAF h';clear hl hm h h'
 by_cases hnm:n=m
 · subst hnm
   go_enter Try.func92,Try.ntmps92
   go_wp2_with fail
   go_loopw [17] (fun i wr=>∃k:Nat,k≤n∧i= .int .i64 (k:Nat)∧belowT (xs.take k) (ys.take k)=true∧Below w.heap.size w wr) (fun i _=>n-(intOf i).toNat)
   case atStart=>exact⟨0,qAQ _,rfl,by simp[belowT],qAJ _ _⟩
   case round=>
    obtain⟨k,hk,rfl,heq,hbel⟩:=hrel;have HE:=qAF heq;refine jc ?_;intro HB hs;clear heq hbel
    by_cases hlt:k<n
    · skip
      refine zk ?_;intro x hx;obtain⟨y,hy⟩:∃y,ys[k]? =some y:=⟨ys[k]'(by rw[HM.out];exact hlt),List.getElem?_eq_getElem _⟩;obtain⟨a,cs,rfl,hab,hc,hr⟩:=HS.out.at hx;obtain⟨b,cs2,rfl,hbb,hc2,hr2⟩:=HT.out.at hy;have HX:=qAF hx;have HY:=qAF hy;clear hx hy;obtain⟨rfl,-,-⟩:=hr;obtain⟨rfl,-,-⟩:=hr2;refine jL ?_;intro c0 c1;rw[qAL a (k*2) 1 (by omega)] at c1;have k0:=fun ob=>((HB.out.alloc hs ob).cell (p:=b.add (k*2)) qV).trans (hc2 0 _ rfl);have k1:=fun ob=>((HB.out.alloc hs ob).cell (p:=b.add (k*2+1)) qV).trans (hc2 1 _ rfl);rw[qAL b (k*2) 1 (by omega)] at k1;have HP:Hid (∀w1,Calls Try.prog 93 #[.agg #[.int .i64 x.1,.int .i64 x.2],.agg #[.int .i64 y.1,.int .i64 y.2]] w1 (Tells (subT x y) w1)):=fun w1=>ksub x.1 x.2 y.1 y.2 w1;clear hc hc2
      cases hg:subT x y
      all_goals
       rw[hg] at HP;have HG:=qAF hg;clear hg
       go_wp2_with (first
        |(go_at_call 93
          refine(HP.out _).mono ?_;rintro e w2 ⟨rfl,hb2⟩;have Hb2:=qAF (((HB.out.alloc hs _).alloc qK _).trans (hb2.mono qK));clear hb2))
      · go_ret
        exact⟨by rw[qED HX.out HY.out HG.out];rfl,Hb2.out⟩
      · refine⟨⟨k+1,by omega,by simp,qDg HE.out HX.out HY.out HG.out,Hb2.out⟩,by simp[intOf];omega⟩
    · obtain rfl:k=n:=by omega
      go_wp2_with fail
      go_ret;refine⟨?_,HB.out⟩;have e:=HE.out;rw[qAM qP,qAM (by rw[HM.out];exact qAI _)] at e;rw[e]
      rfl
 · have h1:((n:Int) != (m:Int))=true:=by simp;omega
   have h2:(n != m)=true:=by simpa using hnm
   have HNM:=qAF hnm;clear hnm
   go_enter Try.func92,Try.ntmps92
   go_wp2_with fail
   go_ret;refine⟨?_,qAJ _ _⟩;rw[qDu (fun e=>HNM.out (by rw[←HL.out,←HM.out,e]))]
   rfl
theorem qIZ (n:Nat) (w:World) (hn:n≤1000000000):
 Calls Try.prog 103 #[.slice none 0 0,.int .i64 (n:Nat)] w fun e w'=>∃v,e= .returned v∧w'.ownsRow w.heap.size 50 2 v 0 (T2 [])∧Below w.heap.size w w':=by
 rcases Nat.eq_zero_or_pos n with h|h
 · subst h
   go_enter Try.func103,Try.ntmps103
   go_wp2
   go_ret;exact⟨_,rfl,World.ownsRow_nil _ _ _ _,qAJ _ _⟩
 · go_enter Try.func103,Try.ntmps103
   go_wp2_with (at_builtin
                refine qDo _ rfl (.tmp 20) (.tmp 21) rfl n h hn rfl rfl ?_;intro G w1 hG hG2 hown hb;have hG3:G≤9223372036854775807:=by unfold maxLen at hG2;omega
                have HO:=qAF hown;clear hown hG2)
   go_ret;exact⟨_,rfl,HO.out,hb⟩
theorem qCE (xss:List (List Typ)) (k:Nat):(xss.take k).flatten.length≤xss.flatten.length:=by
 conv=>rhs;rw[←List.take_append_drop k xss,List.flatten_append]
 rw[List.length_append]
 omega
theorem qDd {xss:List (List Typ)} {k:Nat} {x:List Typ} (h:xss[k]? =some x):(xss.take (k+1)).flatten=(xss.take k).flatten++x:=by
 obtain⟨hk,rfl⟩:=qAH.1 h;rw[qAP hk,List.flatten_append];simp
theorem qB9 (A:Option Addr) (n c:Nat) (xss:List (List Typ)) (w:World) (hl:xss.length=n) (hR:Sq tysL (·<w.heap.size) w A xss) (hn:xss.flatten.length≤1000000) (hn2:n≤1000000):
 Calls Try.prog 94 #[.slice A n c] w fun e w'=>∃v,e= .returned v∧w'.ownsRow w.heap.size 50 2 v xss.flatten.length (T2 xss.flatten)∧Below w.heap.size w w':=by
 have HL:=qAF hl;have HR:=qAF hR;clear hl hR
 go_enter Try.func94,Try.ntmps94
 go_wp2_with fail
 go_loop [3,11] (fun s i=>∃k:Nat,k≤n∧i= .int .i64 (k:Nat)∧s= .int .i64 (((xss.take k).flatten.length:Nat):Int)) (fun _ i=>n-(intOf i).toNat)
 case atStart=>exact⟨0,qAQ _,rfl,by simp⟩
 case round=>
  obtain⟨k,hk,rfl,rfl⟩:=hrel;have hle:=qCE xss k;obtain⟨m,hm⟩:∃m,(xss.take k).flatten.length=m:=⟨_,rfl⟩;rw[hm] at hle⊢;have HM:=qAF hm;clear hm
  by_cases hlt:k<n
  · obtain⟨x,hx⟩:∃x,xss[k]? =some x:=⟨xss[k]'qS,List.getElem?_eq_getElem _⟩
    obtain⟨a,cs,rfl,hab,hc,hr⟩:=HR.out.at hx;obtain⟨A2,d2,rfl,-,-,-⟩:=hr;have hcell:=qAz (K:=tysL.k) rfl (hc 0 _ rfl);clear hc;have HF:=qAF (qDd hx);have hle2:=qCE xss (k+1);rw[HF.out,List.length_append,HM.out] at hle2;clear hx
    go_wp2_with fail
    refine⟨⟨k+1,by omega,by simp,?_⟩,by simp[intOf];omega⟩;rw[HF.out,List.length_append,HM.out];simp
  · obtain rfl:k=n:=by omega
    have HE:Hid (m=xss.flatten.length):=by
     show m=xss.flatten.length
     rw[←HM.out,qAM qP]
    go_wp2_with fail
    refine(qIZ m w (by omega)).mono ?_;rintro e w1 ⟨v1,rfl,hown1,hb1⟩;refine jw ?_;intro HO1 HB1;clear hown1 hb1
    go_wp2_with fail
    go_loopw [6,27] (fun s i wr=>∃j:Nat,j≤k∧i= .int .i64 (j:Nat)∧wr.ownsRow w.heap.size 50 2 s (xss.take j).flatten.length (T2 (xss.take j).flatten)∧Below w.heap.size w wr) (fun _ i _=>k-(intOf i).toNat)
    case atStart=>exact⟨0,qAQ _,rfl,by simpa using HO1.out,HB1.out⟩
    case round=>
     obtain⟨j,hj,rfl,hown,hbel⟩:=hrel;have HO:=qAF hown;refine jc ?_;intro HB hs;clear hown hbel;have hlej:=qCE xss j
     by_cases hlt2:j<k
     · obtain⟨x,hx⟩:∃x,xss[j]? =some x:=⟨xss[j]'(by rw[HL.out];exact hlt2),List.getElem?_eq_getElem _⟩
       obtain⟨a,cs,rfl,hab,hc,hr⟩:=HR.out.at hx;obtain⟨A2,d2,rfl,-,-,hsq⟩:=hr;have hcell2:=(HB.out.cell (p:=a.add j) qA).trans (qAz (K:=tysL.k) rfl (hc 0 _ rfl));clear hc;have HF:=qAF (qDd hx);have hle2:=qCE xss (j+1);rw[HF.out,List.length_append] at hle2;have HY:=qAF hsq;clear hx hsq;obtain⟨q,hq⟩:∃q,(xss.take j).flatten=q:=⟨_,rfl⟩;have HQ:=qAF hq;have HO2:Hid (wr.ownsRow w.heap.size 50 2 u6 q.length (T2 q)):=by
        show wr.ownsRow w.heap.size 50 2 u6 q.length (T2 q)
        rw[←hq];exact HO.out
       rw[hq] at hle2 hlej;clear hq HO
       go_wp2_with (at_builtin
                    refine qAj _ rfl (.tmp 31) (.tmp 32) rfl w.heap.size u6 q.length q rfl HO2.out A2 x.length d2 x rfl rfl (·<w.heap.size) (HY.out.below HB.out (qAI _)) (by omega) hs ?_;intro v2 w2 hown2 hg2 _;have HO3:=qAF hown2;clear hown2)
       refine⟨⟨j+1,by omega,by simp,?_,HB.out.grown hg2 hs (fun i hi=>(HO2.out.lt i hi).1)⟩,by simp[intOf];omega⟩;rw[HF.out,HQ.out,List.length_append];exact HO3.out
     · obtain rfl:j=k:=by omega
       go_wp2_with fail
       go_ret;refine⟨_,rfl,?_,HB.out⟩;have:=HO.out;rw[qAM qP] at this;exact this
def Moved (r:Option (List Typ)) (w:World) (e:Ending) (w':World):Prop:=
 Below w.heap.size w w'∧((r=none∧e= .returned (.tuple #[.slice none 0 0,.bool false]))∨∃t v,r=some t∧e= .returned (.tuple #[v,.bool true])∧w'.ownsRow w.heap.size 50 2 v t.length (T2 t))
theorem qBW (h:s.length<ins.length):movB s ins outs=none:=by
 rw[movB,if_neg]
 omega
theorem qDQ (hb:s.length-ins.length=b) (h:belowT (s.drop b) ins=false):movB s ins outs=none:=by
 rw[movB,if_neg];rw[hb,h];simp
theorem qCX (hb:s.length-ins.length=b) (h:8<b+outs.length):movB s ins outs=none:=by
 rw[movB,if_neg]
 omega
theorem qDP (hb:s.length-ins.length=b) (hl:ins.length≤s.length) (h:belowT (s.drop b) ins=true) (h8:b+outs.length≤8):movB s ins outs=some (s.take b++outs):=by
 rw[movB,hb,if_pos ⟨hl,h8,h⟩]
theorem qEH {S:Nat→Prop} {D:Option Addr} {ts:List Typ} (h:Sq typL S w D ts) (D':Option Addr) (h':b<ts.length→D'=D.map (·.add (b*2))):Sq typL S w D' (ts.drop b):=fun hn=>by
 have hl:(ts.drop b).length=ts.length-b:=by simp
 rw[h' (by omega)];exact h.drop b hn
theorem qC8 {x:Typ} (h:s.reverse=x::r):topB s 0=x:=by
 have e:s=r.reverse++[x]:=by rw[←List.reverse_reverse s,h];simp
 subst e;simp[topB]
theorem qHi {x y:Typ} (h:s.reverse=x::y::r):topB s 1=y:=by
 have e:s=r.reverse++[y,x]:=by rw[←List.reverse_reverse s,h];simp
 subst e;simp[topB]
def chgB (m:Mod) (f:Fn) (i:Ins) (s:List Typ):List Typ×List Typ:=
 if i.1=6 then ([topB s 0],[topB s 0,topB s 0])
 else if i.1=7 then ([topB s 1,topB s 0],[topB s 0,topB s 1])
 else if i.1=41 then ([(5,(topB s 0).2)],[])
 else (ruleB m f i s).getD ([],[])
theorem qIQ {α:Type} [Decidable c] {a b:Option α} (ha:∃p,a=some p) (hb:∃p,b=some p):∃p,(if c then a else b)=some p:=by
 split
 · exact ha
 · exact hb
theorem qGw (h0:0≤i.2.1) (hn:namedB m f i=true) (h6:i.1≠6) (h7:i.1≠7) (h41:i.1≠41):∃p,ruleB m f i s=some p:=by
 by_cases h25:i.1=25
 · simp[namedB,h25] at hn
   have hj:i.2.1.toNat<m.funcs.length:=by omega
   exact⟨(_,_),by simp[ruleB,h25,hj];exact⟨rfl,rfl⟩⟩
 by_cases h27:i.1=27
 · simp[namedB,h27] at hn
   have hj:i.2.1.toNat<m.imps.length:=by omega
   exact⟨(_,_),by simp[ruleB,h27,hj];exact⟨rfl,rfl⟩⟩
 by_cases h28:i.1=28
 · simp[namedB,h28] at hn
   have hj:i.2.1.toNat<m.recs.length:=by omega
   exact⟨(_,_),by simp[ruleB,h28,hj];exact⟨rfl,rfl⟩⟩
 · simp only[ruleB,h6,h7,h41,h25,h27,h28,if_false]
   repeat(first|refine qIQ ⟨_,rfl⟩ ?_|exact⟨_,rfl⟩)
theorem qHx (h0:0≤i.2.1) (hn:namedB m f i=true):(match ruleB m f i s with|none=>none|some p=>movB s p.1 p.2)=movB s (chgB m f i s).1 (chgB m f i s).2:=by
 by_cases h6:i.1=6
 · cases hs:s.reverse with
   |nil=>
    obtain rfl:s=[]:=by simpa using hs
    rw[qBW (by simp[chgB,h6])];simp[ruleB,h6]
   |cons x r=>simp[ruleB,chgB,h6,hs,qC8 hs]
 by_cases h7:i.1=7
 · cases hs:s.reverse with
   |nil=>
    obtain rfl:s=[]:=by simpa using hs
    rw[qBW (by simp[chgB,h7])];simp[ruleB,h7]
   |cons x r=>
    cases r with
    |nil=>
     have hl:s.length=1:=by rw[←List.length_reverse,hs];rfl
     rw[qBW (by simp[chgB,h7,hl])];simp[ruleB,h7,hs]
    |cons y r=>simp[ruleB,chgB,h7,hs,qC8 hs,qHi hs]
 by_cases h41:i.1=41
 · cases hs:s.reverse with
   |nil=>
    obtain rfl:s=[]:=by simpa using hs
    rw[qBW (by simp[chgB,h41])];simp[ruleB,h41]
   |cons x r=>
    have e:s=r.reverse++[x]:=by rw[←List.reverse_reverse s,hs];simp
    by_cases h5:x.1=5
    · have ex:(5,x.2)=x:=Prod.ext h5.symm rfl
      simp[ruleB,chgB,h41,hs,qC8 hs,h5,ex]
    · have hb:belowT (s.drop (s.length-1)) [(5,x.2)]=false:=by
       subst e;simp[belowT,subT,subB,refB,h5]
      rw[qDQ (b:=s.length-1) (by simp[chgB,h41]) (by simpa[chgB,h41,qC8 hs] using hb)];simp[ruleB,h41,hs,h5]
 · obtain⟨p,hp⟩:=qGw (s:=s) h0 hn h6 h7 h41
   simp[chgB,h6,h7,h41,hp]
theorem ins_chg {pc:Nat} (h0:0≤i.2.1) (hn:namedB m f i=true):
 insB8 m f i pc s=(match movB s (chgB m f i s).1 (chgB m f i s).2 with|none=>(4,[],[])|some t=>match nextB f i pc with|none=>(1,[],[])|some l=>(0,t,l)):=by
 rw[←qHx h0 hn,insB8]
 cases ruleB m f i s with
 |none=>rfl
 |some p=>rfl
def follB (i:Ins) (pc:Int):List Int:=if i.1=26 then [] else if i.1=23 then [i.2.1] else if i.1=24 then [pc+1,i.2.1] else [pc+1]
def Nums (l:List Int) (w:World) (e:Ending) (w':World):Prop:=Below w.heap.size w w'∧∃v,e= .returned v∧w'.ownsRow w.heap.size 3 1 v l.length (Is l)
theorem qE1 {g:Nat} {x:Int} (h:Blk w g 3 #[.int .i64 x]) (hg:N≤g):w.ownsRow N 3 1 (.slice (some ⟨g,0,none⟩) 1 1) 1 (Is [x]):=
 ⟨rfl,.inr ⟨g,1,_,rfl,hg,h,qAI _,by simp[maxLen],rfl,rfl⟩⟩
theorem qIB {g:Nat} {x y:Int} (h:Blk w g 3 #[.int .i64 x,.int .i64 y]) (hg:N≤g):w.ownsRow N 3 1 (.slice (some ⟨g,0,none⟩) 2 2) 2 (Is [x,y]):=
 ⟨rfl,.inr ⟨g,2,_,rfl,hg,h,qAI _,by simp[maxLen],rfl,rfl⟩⟩
theorem qGA (o a b pc:Int) (w:World) (hp:0≤pc) (hp2:pc≤1000000):Calls Try.prog 60 #[.agg #[.int .i64 o,.int .i64 a,.int .i64 b],.int .i64 pc] w (Nums (follB (o,a,b) pc) w):=by
 by_cases h26:o=26
 · subst h26
   go_enter Try.func60,Try.ntmps60
   go_wp2_with fail
   go_ret;exact⟨qAN _ _,_,rfl,⟨rfl,.inl ⟨rfl,rfl⟩⟩⟩
 by_cases h23:o=23
 · subst h23
   go_enter Try.func60,Try.ntmps60
   go_wp2_with fail
   go_ret;exact⟨(qAN _ _).alloc (by simp) _,_,rfl,qE1 (qAe (by simp)) (by simp)⟩
 by_cases h24:o=24
 · subst h24
   go_enter Try.func60,Try.ntmps60
   go_wp2_with fail
   go_ret;exact⟨(qAN _ _).alloc (by simp) _,_,rfl,qIB (qAe (by simp)) (by simp)⟩
 · have e26:(o==26)=false:=by simpa using h26
   have e23:(o==23)=false:=by simpa using h23
   have e24:(o==24)=false:=by simpa using h24
   have HF:Hid (follB (o,a,b) pc=[pc+1]):=by show follB _ _=_;simp[follB,h26,h23,h24]
   clear h26 h23 h24
   go_enter Try.func60,Try.ntmps60
   go_wp2_with fail
   go_ret;refine⟨(qAN _ _).alloc (by simp) _,_,rfl,?_⟩;rw[HF.out];exact qE1 (qAe (by simp)) (by simp)
theorem qF8 (A:Option Addr) (n c:Nat) (l:List Int) (y:Int) (w:World) (hl:l.length=n) (hn:n≤1000) (h:∀j x,l[j]? =some x→∃a,A=some a∧w.cell? (a.add j)=some (.int .i64 x)):
 Calls Try.prog 95 #[.slice A n c,.int .i64 y] w fun e w'=>∃z:Int,e= .returned (.int .i64 z)∧w'=w∧(0≤z↔y∈l):=by
 have HL:=qAF hl;have HS:=qAF h;clear hl h
 go_enter Try.func95,Try.ntmps95
 go_wp2_with fail
 go_loop [8] (fun i=>∃k:Nat,k≤n∧i= .int .i64 (k:Nat)∧¬y∈l.take k) (fun i=>n-(intOf i).toNat)
 case atStart=>exact⟨0,qAQ _,rfl,by simp⟩
 case round=>
  obtain⟨k,hk,rfl,hno⟩:=hrel;have HN:=qAF hno;clear hno
  by_cases hlt:k<n
  · obtain⟨x,hx⟩:∃x,l[k]? =some x:=⟨l[k]'qS,List.getElem?_eq_getElem _⟩
    obtain⟨a,rfl,hc⟩:=HS.out k x hx;have HX:=qAF hx;clear hx
    by_cases hxy:y=x
    · subst hxy
      go_wp2_with fail
      go_ret;exact⟨_,rfl,rfl,fun _=>qAK HX.out,fun _=>by simp⟩
    · have e1:(y==x)=false:=by simpa using hxy
      have HXY:=qAF hxy;clear hxy
      go_wp2_with fail
      refine⟨⟨k+1,by omega,by simp,?_⟩,by simp[intOf];omega⟩;obtain⟨hk2,e⟩:=qAH.1 HX.out;rw[qAP hk2,e];simp only[List.mem_append,List.mem_singleton,not_or];exact⟨HN.out,HXY.out⟩
  · obtain rfl:k=n:=by omega
    go_wp2_with fail
    go_ret;refine⟨_,rfl,rfl,fun h=>absurd h (by omega),fun h=>absurd h ?_⟩;have:=HN.out
    rwa [qAM qP] at this
theorem qDt (A:Option Addr) (n c:Nat) (l:List Int) (y:Int) (w:World) (hl:l.length=n) (hn:n≤1000) (h:∀j x,l[j]? =some x→∃a,A=some a∧w.cell? (a.add j)=some (.int .i64 x)):
 Calls Try.prog 61 #[.slice A n c,.int .i64 y] w fun e w'=>e= .returned (.bool (decide (y∈l)))∧w'=w:=by
 have HI:=qAF (qF8 A n c l y w hl hn h);clear h hl hn
 go_enter Try.func61,Try.ntmps61
 go_wp2_with fail
 refine(HI.out).mono ?_;rintro e w1 ⟨z,rfl,rfl,hz⟩;have HZ:=qAF hz;clear hz
 go_wp2_with fail
 go_ret;refine⟨?_,rfl⟩;have:decide (0≤z)=decide (y∈l):=by rw[decide_eq_decide];exact HZ.out
 rw[←this]
 rfl
theorem qDK {n:Nat} {v:Value} {l:List Int} (h:w.ownsRow N 3 1 v n (Is l)):∃A c,v= .slice A n c∧n=l.length∧n≤c∧(∀j x,l[j]? =some x→∃a,A=some a∧N≤a.block∧a.block<w.heap.size∧w.cell? (a.add j)=some (.int .i64 x)):=by
 have hn:n=l.length:=by have:=h.1;rw[qHg] at this;omega
 rcases h.2 with⟨rfl,h0⟩|⟨g,cap,cur,rfl,hb,hg,hnc,hcm,_,_⟩
 · refine⟨none,0,by rw[h0],hn,by omega,fun j x hx=> ?_⟩
   have:=(qAH.1 hx).1
   omega
 · exact⟨some ⟨g,0,none⟩,cap,rfl,hn,hnc,fun j x hx=>⟨_,rfl,hb,(Array.getElem?_eq_some_iff.1 hg).1,h.cells rfl j _ (qI0 hx)⟩⟩
theorem qAv {fn:Fn} (h:checkN x=0) (hf:fn∈x.funcs):fn.args.length≤4∧fn.locs.length≤8∧fn.code.length≤64∧∀i∈fn.code,goodIn i=true∧namedB x fn i=true:=by
 have hF:=qAW.1 (qAT h);have ho:=hF.funcs fn hf;simp only[fnOk,Bool.and_eq_true,qAn] at ho;have hb:badM x=false:=by
  cases hb:badM x
  · rfl
  · rw[qGJ (qAT h) hb] at h;cases h
 refine⟨by omega,by omega,by omega,fun i hi=>⟨ho.2.2 i hi,?_⟩⟩
 cases hn:namedB x fn i
 · rw[qHe hf (qIt hi hn)] at hb;cases hb
 · rfl
theorem qHs {p:Imp} (h:checkN x=0) (hf:p∈x.imps):p.args.length≤4:=by
 have ho:=(qAW.1 (qAT h)).imps p hf;simp only[impOk,Bool.and_eq_true,qAn] at ho
 omega
theorem qHr (h:checkN x=0) (hf:r∈x.recs):r.length≤6:=by
 have ho:=(qAW.1 (qAT h)).recs r hf;simp only[recOk,qAn] at ho
 omega
def short2 (p:List Typ×List Typ):Prop:=p.1.length≤8∧p.2.length≤8
theorem qCP [Decidable c] {a b:List Typ×List Typ} (ha:short2 a) (hb:short2 b):short2 (if c then a else b):=by
 split
 · exact ha
 · exact hb
theorem qFh [Decidable c] {a b:Option (List Typ×List Typ)} (ha:short2 (a.getD ([],[]))) (hb:short2 (b.getD ([],[]))):short2 ((if c then a else b).getD ([],[])):=by
 split
 · exact ha
 · exact hb
theorem qGi (h:checkN x=0):short2 (chgB x f i s):=by
 have e0:short2 ((none:Option (List Typ×List Typ)).getD ([],[])):=⟨by simp,by simp⟩;unfold chgB;refine qCP ⟨by simp,by simp⟩ (qCP ⟨by simp,by simp⟩ (qCP ⟨by simp,by simp⟩ ?_));unfold ruleB
 repeat(first
  |(refine qFh ?_ ?_
    (first
     |(refine⟨?_,?_⟩<;>(simp<;>done))
     |(split
       · rename_i g hg
         first
         |exact⟨by have:=(qAv h (qAK hg)).1;simp;omega,by simp⟩
         |exact⟨by have:=qHs h (qAK hg);simp;omega,by simp⟩
         |exact⟨by have:=qHr h (qAK hg);simp;omega,by simp⟩
       · exact e0)
     |(split<;>first|exact e0|(refine⟨?_,?_⟩<;>(simp<;>done))|(split<;>first|exact e0|(refine⟨?_,?_⟩<;>(simp<;>done))))))
  |(refine⟨?_,?_⟩<;>(simp<;>done)))
theorem qHB {p:Nat} (hn:namedB x f i=true) (hp:p<f.code.length):nextB f i p=if ((f.code.length:Nat):Int)∈follB i (p:Int) then none else some (follB i (p:Int)):=by
 unfold nextB follB
 by_cases h26:i.1=26
 · simp[h26]
 by_cases h23:i.1=23
 · simp[namedB,h23] at hn
   simp[h23]
   omega
 by_cases h24:i.1=24
 · simp[namedB,h24] at hn
   by_cases hq:f.code.length≤p+1
   · have hq2:((f.code.length:Nat):Int)=(p:Int)+1:=by omega
     simp[h24,hq,hq2]
   · have hq2:¬((f.code.length:Nat):Int)=(p:Int)+1:=by omega
     have hq3:¬((f.code.length:Nat):Int)=i.2.1:=by omega
     simp[h24,hq,hq2,hq3]
 · simp only[h26,h23,h24,if_false,List.mem_singleton]
   by_cases hq:f.code.length≤p+1
   · rw[if_pos hq,if_pos (by omega)]
   · rw[if_neg hq,if_neg (by omega)]
theorem on_few (A B D:Option Addr) (n m k c d g:Nat) (ins outs ts:List Typ) (w:World) (hn:ins.length=n) (hm:outs.length=m) (hk:ts.length=k) (sn:Sq typL (·<w.heap.size) w A ins) (sm:Sq typL (·<w.heap.size) w B outs) (sk:Sq typL (·<w.heap.size) w D ts)
 (hlt:k<n) (bn:n≤1000) (bm:m≤1000) (bk:k≤1000) (bg:k≤g) (bg2:g≤9223372036854775807) (bd:m≤d) (bd2:d≤9223372036854775807):Calls Try.prog 59 #[.agg #[.slice A n c,.slice B m d],.slice D k g] w (Moved (movB ts ins outs) w):=by
 refine j3 ?_;intro HN HM HK SN SM SK;refine jP ?_;intro HB0;clear hn hm hk sn sm sk;have e1:(k:Int)-(n:Int)<0:=by omega
 have HV:=qAF (qBW (outs:=outs) (show ts.length<ins.length by rw[HK.out,HN.out];exact hlt));clear hlt
 go_enter Try.func59,Try.ntmps59
 go_wp2_with fail
 refine qAR fun U hU=> ?_;have HBU:Hid (Below w.heap.size w U):=by show Below _ _ _;rw[hU];exact HB0.out _
 clear hU;refine jR ?_;intro HBR;refine wp_region_quiet_below qL qL ?_
 repeat(quiet_step (fail))
 refine wpQuiet_nil ?_;intro _ hw';obtain⟨⟨dq,osq⟩,hw''⟩:=hw';subst hw''
 go_wp2_with fail
 go_ret2;exact⟨HBR.out dq osq,.inl ⟨HV.out,rfl⟩⟩
theorem on_far (A B:Option Addr) (a:Addr) (n m k c d g:Nat) (ins outs ts:List Typ) (w:World) (hn:ins.length=n) (hm:outs.length=m) (hk:ts.length=k) (sn:Sq typL (·<w.heap.size) w A ins) (sm:Sq typL (·<w.heap.size) w B outs) (sk:Sq typL (·<w.heap.size) w (some a) ts)
 (hlt:¬k<n) (hg:¬g=k-n) (bn:n≤1000) (bm:m≤1000) (bk:k≤1000) (bg:k≤g) (bg2:g≤9223372036854775807) (bd:m≤d) (bd2:d≤9223372036854775807):Calls Try.prog 59 #[.agg #[.slice A n c,.slice B m d],.slice (some a) k g] w (Moved (movB ts ins outs) w):=by
 refine j3 ?_;intro HN HM HK SN SM SK;refine jP ?_;intro HB0;clear hn hm hk sn sm sk;refine jS ?_;intro b hb HBe HLe e1 e2 e3 e4 e5 e6 e7 e8;have TE:Hid (∀w1 D' c',Below w.heap.size w w1→(b<k→D'=(some a).map (·.add (b*2)))→Calls Try.prog 92 #[.slice D' n c',.slice A n c,.func (.func 93) #[] #[]] w1 fun e w'=>e= .returned (.bool (belowT (ts.drop b) ins))∧Below w1.heap.size w1 w'):=fun w1 D' c' hb1 hd=>
  qBT D' A n n c' c (ts.drop b) ins w1 (by rw[List.length_drop,HK.out];exact e6) HN.out (qEH ((SK.out.below hb1 (qAI _)).wide fun i hi=>qAG hi hb1.size) D' (by rw[HK.out];exact hd)) ((SN.out.below hb1 (qAI _)).wide fun i hi=>qAG hi hb1.size) (by omega) (by omega)
 have TC:Hid (∀w1 G,Below w.heap.size w w1→Blk w1 G 42 #[.slice (some a) b g,.slice B m d]→Calls Try.prog 94 #[.slice (some ⟨G,0,none⟩) 2 2] w1 fun e w'=>∃v,e= .returned v∧w'.ownsRow w1.heap.size 50 2 v (ts.take b++outs).length (T2 (ts.take b++outs))∧Below w1.heap.size w1 w'):=fun w1 G hb1 hblk=>by
  refine jG ?_;intro lb r0 r1 A9 c9 e9 hsq;simp only[List.cons.injEq,Value.slice.injEq,and_true] at e9;obtain⟨rfl,-,-⟩:=e9;have:=qB9 (some ⟨G,0,none⟩) 2 2 [ts.take b,outs] w1 rfl hsq (by simp only[List.flatten_cons,List.flatten_nil,List.append_nil,List.length_append,lb,HM.out];omega) (by omega);simpa using this
 refine zy ?_;intro HC HV0 HV1 HV2;rw[hb] at hg;clear hlt hb;have TE2:Hid (∀w1 c',Below w.heap.size w w1→Calls Try.prog 92 #[.slice (some (a.add (b*2))) n c',.slice A n c,.func (.func 93) #[] #[]] w1 fun e w'=>e= .returned (.bool (belowT (ts.drop b) ins))∧Below w1.heap.size w1 w'):=fun w1 c' hb1=>TE.out w1 _ c' hb1 (fun h=>rfl);clear TE
 cases hbt:belowT (ts.drop b) ins
 case' true=>by_cases h8:8<b+m
 all_goals
  rw[hbt] at TE2;have HBT:=qAF hbt;clear hbt;have hw1:IntKind.i64.wrap ((b:Int)+(m:Int))=(b:Int)+(m:Int):=by rw[qAS];omega
  try(have h8i:decide ((8:Int)<(b:Int)+(m:Int))=decide (8<b+m):=by rw[decide_eq_decide];omega)
  try rw[decide_eq_true h8] at h8i
  try rw[decide_eq_false h8] at h8i
  go_enter Try.func59,Try.ntmps59
  go_wp2_with fail
  refine qAR fun U hU=> ?_;refine je ?_;intro HBU HCU hsU;clear hU;refine jR ?_;intro HBR;have x0:=cell_regrown HCU.out.1;have x1:=cell_regrown HCU.out.2;refine wp_region_quiet_below qL qL ?_
  repeat(quiet_step (first|with_reducible exact Calls.regrown_of (TE2.out _ _ (HBR.out _ _))))
  refine wpQuiet_nil ?_;intro _ hw';obtain⟨⟨dq,osq⟩,hw''⟩:=hw';subst hw'';refine jg ?_;intro HB1 HS1
  go_wp2_with fail
  first
  |(go_ret2
    exact⟨HB1.out,.inl ⟨by first|exact HV0.out HBT.out|exact HV1.out h8,rfl⟩⟩)
  |skip
 all_goals
  refine qAR fun V hV=> ?_;refine jJ ?_;intro HBV HCV hsV;have HVX:=qAF (HV2.out HBT.out (by omega));clear hV x0 x1
  go_region_held3 (fun w'=>w'.cell? ⟨w.heap.size,1,none⟩=some (.slice B m d))
   (first|exact HCV.out|exact SS4.out|exact(((qAN V _).cell (p:=⟨w.heap.size,1,none⟩) hsV).trans HCV.out)|exact(((qAN V _).drew.cell (p:=⟨w.heap.size,1,none⟩) hsV).trans HCV.out))
   (first
   |(go_at_call 94
     refine(TC.out _ V.heap.size ((HBV.out.alloc HBV.out.size _).drew) (qBe V _ _)).mono ?_;rintro e w4 ⟨v4,rfl,hown4,hb4⟩;refine jl ?_;intro HO4 HB4 SS4;clear hown4 hb4))
  go_wp2_with fail
  go_ret2;refine⟨HBV.out.trans (HB4.out.mono HBV.out.size),.inr ⟨_,v4,HVX.out,rfl,?_⟩⟩;refine⟨HO4.out.1,?_⟩;rcases HO4.out.2 with h|⟨g',cap,cur,e,hb2,rest⟩
  · exact .inl h
  · exact .inr ⟨g',cap,cur,e,by have:=HBV.out.size;simp at hb2;omega,rest⟩
theorem on_full (A B:Option Addr) (a:Addr) (n m k c d g:Nat) (ins outs ts:List Typ) (w:World) (hn:ins.length=n) (hm:outs.length=m) (hk:ts.length=k) (sn:Sq typL (·<w.heap.size) w A ins) (sm:Sq typL (·<w.heap.size) w B outs) (sk:Sq typL (·<w.heap.size) w (some a) ts)
 (hlt:¬k<n) (hg:g=k-n) (bn:n≤1000) (bm:m≤1000) (bk:k≤1000) (bg:k≤g) (bg2:g≤9223372036854775807) (bd:m≤d) (bd2:d≤9223372036854775807):Calls Try.prog 59 #[.agg #[.slice A n c,.slice B m d],.slice (some a) k g] w (Moved (movB ts ins outs) w):=by
 refine j3 ?_;intro HN HM HK SN SM SK;refine jP ?_;intro HB0;clear hn hm hk sn sm sk;refine jS ?_;intro b hb HBe HLe e1 e2 e3 e4 e5 e6 e7 e8;have TE:Hid (∀w1 D' c',Below w.heap.size w w1→(b<k→D'=(some a).map (·.add (b*2)))→Calls Try.prog 92 #[.slice D' n c',.slice A n c,.func (.func 93) #[] #[]] w1 fun e w'=>e= .returned (.bool (belowT (ts.drop b) ins))∧Below w1.heap.size w1 w'):=fun w1 D' c' hb1 hd=>
  qBT D' A n n c' c (ts.drop b) ins w1 (by rw[List.length_drop,HK.out];exact e6) HN.out (qEH ((SK.out.below hb1 (qAI _)).wide fun i hi=>qAG hi hb1.size) D' (by rw[HK.out];exact hd)) ((SN.out.below hb1 (qAI _)).wide fun i hi=>qAG hi hb1.size) (by omega) (by omega)
 have TC:Hid (∀w1 G,Below w.heap.size w w1→Blk w1 G 42 #[.slice (some a) b g,.slice B m d]→Calls Try.prog 94 #[.slice (some ⟨G,0,none⟩) 2 2] w1 fun e w'=>∃v,e= .returned v∧w'.ownsRow w1.heap.size 50 2 v (ts.take b++outs).length (T2 (ts.take b++outs))∧Below w1.heap.size w1 w'):=fun w1 G hb1 hblk=>by
  refine jG ?_;intro lb r0 r1 A9 c9 e9 hsq;simp only[List.cons.injEq,Value.slice.injEq,and_true] at e9;obtain⟨rfl,-,-⟩:=e9;have:=qB9 (some ⟨G,0,none⟩) 2 2 [ts.take b,outs] w1 rfl hsq (by simp only[List.flatten_cons,List.flatten_nil,List.append_nil,List.length_append,lb,HM.out];omega) (by omega);simpa using this
 refine zy ?_;intro HC HV0 HV1 HV2;rw[hb] at hg;clear hlt hb;have hg2:=hg.symm;clear hg;subst hg2;have TE2:Hid (∀w1 c',Below w.heap.size w w1→Calls Try.prog 92 #[.slice (some a) n c',.slice A n c,.func (.func 93) #[] #[]] w1 fun e w'=>e= .returned (.bool (belowT (ts.drop b) ins))∧Below w1.heap.size w1 w'):=fun w1 c' hb1=>TE.out w1 _ c' hb1 (fun h=>by omega);clear TE
 cases hbt:belowT (ts.drop b) ins
 case' true=>by_cases h8:8<b+m
 all_goals
  rw[hbt] at TE2;have HBT:=qAF hbt;clear hbt;have hw1:IntKind.i64.wrap ((b:Int)+(m:Int))=(b:Int)+(m:Int):=by rw[qAS];omega
  try(have h8i:decide ((8:Int)<(b:Int)+(m:Int))=decide (8<b+m):=by rw[decide_eq_decide];omega)
  try rw[decide_eq_true h8] at h8i
  try rw[decide_eq_false h8] at h8i
  go_enter Try.func59,Try.ntmps59
  go_wp2_with fail
  refine qAR fun U hU=> ?_;refine je ?_;intro HBU HCU hsU;clear hU;refine jR ?_;intro HBR;have x0:=cell_regrown HCU.out.1;have x1:=cell_regrown HCU.out.2;refine wp_region_quiet_below qL qL ?_
  repeat(quiet_step (first|with_reducible exact Calls.regrown_of (TE2.out _ _ (HBR.out _ _))))
  refine wpQuiet_nil ?_;intro _ hw';obtain⟨⟨dq,osq⟩,hw''⟩:=hw';subst hw'';refine jg ?_;intro HB1 HS1
  go_wp2_with fail
  first
  |(go_ret2
    exact⟨HB1.out,.inl ⟨by first|exact HV0.out HBT.out|exact HV1.out h8,rfl⟩⟩)
  |skip
 all_goals
  refine qAR fun V hV=> ?_;refine jJ ?_;intro HBV HCV hsV;have HVX:=qAF (HV2.out HBT.out (by omega));clear hV x0 x1
  go_region_held3 (fun w'=>w'.cell? ⟨w.heap.size,1,none⟩=some (.slice B m d))
   (first|exact HCV.out|exact SS4.out|exact(((qAN V _).cell (p:=⟨w.heap.size,1,none⟩) hsV).trans HCV.out)|exact(((qAN V _).drew.cell (p:=⟨w.heap.size,1,none⟩) hsV).trans HCV.out))
   (first
   |(go_at_call 94
     refine(TC.out _ V.heap.size ((HBV.out.alloc HBV.out.size _).drew) (qBe V _ _)).mono ?_;rintro e w4 ⟨v4,rfl,hown4,hb4⟩;refine jl ?_;intro HO4 HB4 SS4;clear hown4 hb4))
  go_wp2_with fail
  go_ret2;refine⟨HBV.out.trans (HB4.out.mono HBV.out.size),.inr ⟨_,v4,HVX.out,rfl,?_⟩⟩;refine⟨HO4.out.1,?_⟩;rcases HO4.out.2 with h|⟨g',cap,cur,e,hb2,rest⟩
  · exact .inl h
  · exact .inr ⟨g',cap,cur,e,by have:=HBV.out.size;simp at hb2;omega,rest⟩
end Go.Proofs.Ytelceoecekfamaa
