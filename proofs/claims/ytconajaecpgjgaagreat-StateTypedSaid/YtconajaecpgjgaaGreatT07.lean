/-
Fp Knd Eft Ctt Fonw Fcp Ffo Ffp Vm Vc Vs Vl Oms Sml
-/
import Derived.Test.YtconajaecpgjgaaGreatT01
import Derived.Test.YtconajaecpgjgaaGreatT02
import Derived.Test.YtconajaecpgjgaaGreatT06
import Derived.Deep.RegionHeld3
import Derived.Deep.RegionWith
import Derived.Lib.QuietBelow
import Derived.BigQuiet
set_option linter.unusedSimpArgs false
set_option linter.unusedVariables false
set_option maxRecDepth 100000
set_option maxHeartbeats 1000000
namespace Go.Proofs.YtconajaecpgjgaaGreat
open Go.RowKit
theorem qL {P:Prop} (h:P:=by
 go_enter Tryz.func122,Tryz.ntmps122
 go_wp2_with (first|(go_at_call 153;with_reducible refine(A0.out _).mono ?_;rintro e w1 ⟨rfl,hb1⟩;obtain⟨hc1,-⟩:=qCo hb1;have hz1:w.heap.size+1<w1.heap.size:=by {have:=hb1.size;simp at this;omega};have hz0:w.heap.size<w1.heap.size:=by omega)|(go_at_call 153;with_reducible refine(C0.out _).mono ?_;rintro e w2 ⟨rfl,hb2⟩;obtain⟨hc2,-⟩:=qCo hb2))
 go_ret
 exact⟨rfl,((((qAe _ _).alloc (qAf _) _).alloc (by simp) _).trans (hb1.mono (by simp;omega))).trans (hb2.mono (by omega))⟩):P:=h
theorem jD {P:Prop} (h:P:=by
 replace A0:=qAZ qx
 clear hra
 go_enter Tryz.func122,Tryz.ntmps122
 go_wp2_with (first|(go_at_call 153;with_reducible refine(A0.out _).mono ?_;rintro e w1 ⟨rfl,hb1⟩;obtain⟨hc1,-⟩:=qCo hb1;have hz1:w.heap.size+1<w1.heap.size:=by {have:=hb1.size;simp at this;omega};have hz0:w.heap.size<w1.heap.size:=by omega))
 go_ret
 exact⟨rfl,(((qAe _ _).alloc (qAf _) _).alloc (by simp) _).trans (hb1.mono qf)⟩):P:=h
theorem jt {P:Prop} (h:P:=by
 obtain rfl:k=n:=by omega
 go_wp2_with fail
 go_ret
 refine⟨?_,HB.out⟩
 have e:=HE.out
 rw[qAr qZ,qAr jR] at e
 rw[e]
 rfl):P:=h
theorem jv {P:Prop} (h:P:=by
 go_enter Tryz.func153,Tryz.ntmps153
 exact qJ):P:=h
def TypIs (t:Typ) (w:World) (e:Ending) (w':World):Prop:=e= .returned (.agg #[.int .i64 t.1,.int .i64 t.2])∧Below w.heap.size w w'
theorem qA0 {B R:Nat} {w W:World} {u v:Value} (h:Below B w W) (hR:B≤R):Below B w ((W.setCell ⟨R,0,none⟩ u).setCell ⟨R,1,none⟩ v):=(h.setCell (p:=⟨R,0,none⟩) hR u).setCell (p:=⟨R,1,none⟩) hR v
theorem qAj (w:World) (o:Obj):Below w.heap.size w (w.alloc o):=(qAe _ w).alloc (qAf _) o
theorem qAw (k:Int) (w:World):Calls Tryz.prog 145 #[.int .i64 k] w (TypIs (k,0) w):=by
 go_enter Tryz.func145,Tryz.ntmps145
 go_wp2_with fail
 exact bodyPost_ret (v:= .agg #[.int .i64 k,.int .i64 0]) (by simp[results,Tryz.results145,go_sem]) rfl ⟨rfl,qAj _ _⟩
theorem qA2 (A:Option Addr) (n c:Nat) (w:World):Calls Tryz.prog 146 #[.slice A n c] w fun e w'=>e= .returned (.agg #[.slice A n c,.slice none 0 0])∧Below w.heap.size w w':=by
 go_enter Tryz.func146,Tryz.ntmps146
 go_wp2_with fail
 exact bodyPost_ret (v:= .agg #[.slice A n c,.slice none 0 0]) (by simp[results,Tryz.results146,go_sem]) rfl ⟨rfl,qAj _ _⟩
theorem qA6 (A B:Option Addr) (n c m d:Nat) (w:World):Calls Tryz.prog 147 #[.agg #[.slice A n c,.slice none 0 0],.slice B m d] w fun e w'=>e= .returned (.agg #[.slice A n c,.slice B m d])∧Below w.heap.size w w':=by
 go_enter Tryz.func147,Tryz.ntmps147
 go_wp2_with fail
 exact bodyPost_ret (v:= .agg #[.slice A n c,.slice B m d]) (by simp[results,Tryz.results147,go_sem]) rfl ⟨rfl,(qAj _ _).alloc (by simp) _⟩
def topB (s:List Typ) (n:Nat):Typ:=if n<s.length then (s[s.length-1-n]?).getD (8,0) else (8,0)
theorem qCH (A:Option Addr) (n c k:Nat) (ts:List Typ) (w:World) (hl:ts.length=n) (h:Sq typL (·<w.heap.size) w A ts) (hn:n≤9223372036854775807) (hk:k≤1):
 Calls Tryz.prog 149 #[.slice A n c,.int .i64 (k:Nat)] w (TypIs (topB ts k) w):=by
 by_cases hkn:k<n
 · obtain⟨t,ht⟩:∃t,ts[n-1-k]? =some t:=⟨ts[n-1-k]'(by omega),qAa _⟩
   have HT:Hid (topB ts k=t):=by
    show topB ts k=t
    rw[topB,hl,if_pos hkn,ht]
    rfl
   obtain⟨a,cs,rfl,hab,hc,hr⟩:=h.at ht
   obtain⟨rfl,-,-⟩:=hr
   obtain⟨j,hj⟩:∃j:Nat,n-1-k=j:=⟨_,rfl⟩
   rw[hj] at hc
   have e1:(n:Int)-1-(k:Int)=(j:Int):=by omega
   have j1:(j:Int)<(n:Int):=by omega
   have k1:¬((n:Int)≤(k:Int)):=by omega
   have c0:=fun ob=>(qAj w ob).cell (p:=a.add (j*2)) qE |>.trans (hc 0 _ rfl)
   have c1:=fun ob=>(qAj w ob).cell (p:=a.add (j*2+1)) qE |>.trans (hc 1 _ rfl)
   rw[qAl a (j*2) 1 (by omega)] at c1
   clear hc h ht hl hj
   go_enter Tryz.func149,Tryz.ntmps149
   go_wp2_with fail
   exact bodyPost_ret (v:= .agg #[.int .i64 t.1,.int .i64 t.2]) (by simp[results,Tryz.results149,go_sem]) rfl ⟨by rw[HT.out],qAj _ _⟩
 · have HT:Hid (topB ts k=(8,0)):=by
    show topB ts k=(8,0)
    rw[topB,hl,if_neg hkn]
   have hk3:(n:Int)≤(k:Int):=by omega
   have HP:=qAZ (fun w=>qAw 8 w)
   clear h hl
   go_enter Tryz.func149,Tryz.ntmps149
   go_wp2_with (first
    |(go_at_call 145
      refine(HP.out _).mono ?_
      rintro e w1 ⟨rfl,hb1⟩
      have HB:=qAZ hb1
      obtain⟨hc1,hf1⟩:=qCo hb1
      have hs1:w.heap.size<w1.heap.size:=zU
      clear hb1))
   exact bodyPost_ret (v:= .agg #[.int .i64 8,.int .i64 0]) (by simp[results,Tryz.results149,go_sem,hc1,hs1]) rfl ⟨by rw[HT.out],qA0 ((qAj _ _).trans (HB.out.mono (by simp))) (qAf _)⟩
def hasB (n:Nat) (k:Int):Bool:=decide (0≤k) && decide (k<(n:Int))
theorem qFy (A:Option Addr) (n c:Nat) (k:Int) (w:World):Calls Tryz.prog 159 #[.slice A n c,.int .i64 k] w fun e w'=>e= .returned (.bool (hasB n k))∧w'=w:=by
 unfold hasB
 by_cases h0:0≤k
 · go_enter Tryz.func159,Tryz.ntmps159
   go_wp2_with fail
   go_ret
   exact⟨by simp[h0],rfl⟩
 · go_enter Tryz.func159,Tryz.ntmps159
   go_wp2_with fail
   go_ret
   exact⟨by simp[h0];omega,rfl⟩
theorem qD7 (A:Option Addr) (n c:Nat) (k:Int) (w:World):Calls Tryz.prog 115 #[.slice A n c,.int .i64 k] w fun e w'=>e= .returned (.bool (hasB n k))∧w'=w:=by
 unfold hasB
 by_cases h0:0≤k
 · go_enter Tryz.func115,Tryz.ntmps115
   go_wp2_with fail
   go_ret
   exact⟨by simp[h0],rfl⟩
 · go_enter Tryz.func115,Tryz.ntmps115
   go_wp2_with fail
   go_ret
   exact⟨by simp[h0];omega,rfl⟩
theorem qFz (A:Option Addr) (n c:Nat) (k:Int) (w:World):Calls Tryz.prog 116 #[.slice A n c,.int .i64 k] w fun e w'=>e= .returned (.bool (hasB n k))∧w'=w:=by
 unfold hasB
 by_cases h0:0≤k
 · go_enter Tryz.func116,Tryz.ntmps116
   go_wp2_with fail
   go_ret
   exact⟨by simp[h0],rfl⟩
 · go_enter Tryz.func116,Tryz.ntmps116
   go_wp2_with fail
   go_ret
   exact⟨by simp[h0];omega,rfl⟩
theorem kref (k n:Int) (w:World):Calls Tryz.prog 153 #[.agg #[.int .i64 k,.int .i64 n]] w fun e w'=>e= .returned (.bool (refB k))∧Below w.heap.size w w':=by
 by_cases h2:k=2
 · subst h2
   exact jv
 by_cases h3:k=3
 · subst h3
   exact jv
 by_cases h4:k=4
 · subst h4
   exact jv
 by_cases h6:k=6
 · subst h6
   exact jv
 by_cases h7:k=7
 · subst h7
   exact jv
 have e:refB k=false:=by simp[refB,h2,h3,h4,h6,h7]
 rw[e]
 clear e
 go_enter Tryz.func153,Tryz.ntmps153
 go_wp2_with fail
 go_ret
 exact⟨rfl,(qAe _ _).alloc (qAf _) _⟩
theorem ksub (a b c d:Int) (w:World):Calls Tryz.prog 122 #[.agg #[.int .i64 a,.int .i64 b],.agg #[.int .i64 c,.int .i64 d]] w fun e w'=>e= .returned (.bool (subB a b c d))∧Below w.heap.size w w':=by
 have A0:=qAZ (fun w=>kref a b w)
 have C0:=qAZ (fun w=>kref c d w)
 by_cases h8:c=8
 · subst h8
   rw[show subB a b 8 d=true by simp[subB]]
   go_enter Tryz.func122,Tryz.ntmps122
   go_wp2_with fail
   all_goals(go_ret;exact⟨rfl,((qAe _ _).alloc (qAf _) _).alloc (by simp) _⟩)
 have e8:(c==8)=false:=by simpa using h8
 by_cases hac:a=c
 · subst hac
   by_cases hbd:b=d
   · subst hbd
     rw[show subB a b a b=true by simp[subB]]
     go_enter Tryz.func122,Tryz.ntmps122
     go_wp2_with fail
     exact jp
   have hne:(b==d)=false:=by simpa using hbd
   cases hra:refB a
   · rw[show subB a b a d=false by simp[subB,hra,hne,e8]]
     exact jD
   cases hrc:refB a
   · rw[show subB a b a d=false by simp[subB,hrc,hne,e8]]
     replace A0:=qAZ qx
     replace C0:=qAZ zD
     clear hra hrc
     exact qL
   by_cases h6:a=6
   · rw[show subB a b a d=true by simp only[subB,hra,hrc];simp[h6]]
     replace A0:=qAZ qx
     replace C0:=qAZ zD
     clear hra hrc
     have e6:(a==6)=true:=by simpa using h6
     clear h6
     exact qL
   rw[show subB a b a d=(a==7) by simp[subB,hra,hrc,h6,hne,e8]]
   replace A0:=qAZ qx
   replace C0:=qAZ zD
   clear hra hrc
   have e6:(a==6)=false:=by simpa using h6
   clear h6
   exact qL
 have hne:(a==c)=false:=by simpa using hac
 cases hra:refB a
 · rw[show subB a b c d=false by simp[subB,hra,hne,e8]]
   exact jD
 cases hrc:refB c
 · rw[show subB a b c d=false by simp[subB,hrc,hne,e8]]
   replace A0:=qAZ qx
   replace C0:=qAZ zD
   clear hra hrc
   exact qL
 by_cases h6:a=6
 · rw[show subB a b c d=true by simp only[subB,hra,hrc];simp[h6]]
   replace A0:=qAZ qx
   replace C0:=qAZ zD
   clear hra hrc
   have e6:(a==6)=true:=by simpa using h6
   clear h6
   exact qL
 rw[show subB a b c d=(c==7) by simp[subB,hra,hrc,h6,hne,e8]]
 replace A0:=qAZ qx
 replace C0:=qAZ zD
 clear hra hrc
 have e6:(a==6)=false:=by simpa using h6
 clear h6
 go_enter Tryz.func122,Tryz.ntmps122
 go_wp2_with (first|(go_at_call 153;with_reducible refine(A0.out _).mono ?_;rintro e w1 ⟨rfl,hb1⟩;obtain⟨hc1,-⟩:=qCo hb1;have hz1:w.heap.size+1<w1.heap.size:=by {have:=hb1.size;simp at this;omega};have hz0:w.heap.size<w1.heap.size:=by omega)|(go_at_call 153;with_reducible refine(C0.out _).mono ?_;rintro e w2 ⟨rfl,hb2⟩;obtain⟨hc2,-⟩:=qCo hb2))
 go_ret
 exact⟨rfl,((((qAe _ _).alloc (qAf _) _).alloc (by simp) _).trans (hb1.mono qf)).trans (hb2.mono (by omega))⟩
theorem qB3 (A B:Option Addr) (n m c d:Nat) (xs ys:List Typ) (w:World) (hl:xs.length=n) (hm:ys.length=m) (h:Sq typL (·<w.heap.size) w A xs) (h':Sq typL (·<w.heap.size) w B ys) (hn2:n≤9223372036854775807) (hm2:m≤9223372036854775807):
 Calls Tryz.prog 121 #[.slice A n c,.slice B m d,.func (.func 122) #[] #[]] w (Tells (belowT xs ys) w):=by
 have HL:=qAZ hl
 have HM:=qAZ hm
 have HS:=qAZ h
 have HT:=qAZ h'
 clear hl hm h h'
 by_cases hnm:n=m
 · subst hnm
   go_enter Tryz.func121,Tryz.ntmps121
   go_wp2_with fail
   go_loopw [17] (fun i wr=>∃k:Nat,k≤n∧i= .int .i64 (k:Nat)∧belowT (xs.take k) (ys.take k)=true∧Below w.heap.size w wr) (fun i _=>n-(intOf i).toNat)
   case atStart=>exact⟨0,qAs _,rfl,by simp[belowT],qAe _ _⟩
   case round=>
    obtain⟨k,hk,rfl,heq,hbel⟩:=hrel
    have HE:=qAZ heq
    have HB:=qAZ hbel
    have hs:=hbel.size
    clear heq hbel
    by_cases hlt:k<n
    · skip
      obtain⟨x,hx⟩:∃x,xs[k]? =some x:=⟨xs[k]'qd,qAa _⟩
      obtain⟨y,hy⟩:∃y,ys[k]? =some y:=⟨ys[k]'jX,qAa _⟩
      obtain⟨a,cs,rfl,hab,hc,hr⟩:=HS.out.at hx
      obtain⟨b,cs2,rfl,hbb,hc2,hr2⟩:=HT.out.at hy
      have HX:=qAZ hx
      have HY:=qAZ hy
      clear hx hy
      obtain⟨rfl,-,-⟩:=hr
      obtain⟨rfl,-,-⟩:=hr2
      have c0:=(HB.out.cell (p:=a.add (k*2)) qE).trans (hc 0 _ rfl)
      have c1:=(HB.out.cell (p:=a.add (k*2+1)) qE).trans (hc 1 _ rfl)
      rw[qAl a (k*2) 1 (by omega)] at c1
      have k0:=fun ob=>((HB.out.alloc hs ob).cell (p:=b.add (k*2)) qm).trans (hc2 0 _ rfl)
      have k1:=fun ob=>((HB.out.alloc hs ob).cell (p:=b.add (k*2+1)) qm).trans (hc2 1 _ rfl)
      rw[qAl b (k*2) 1 (by omega)] at k1
      have HP:Hid (∀w1,Calls Tryz.prog 122 #[.agg #[.int .i64 x.1,.int .i64 x.2],.agg #[.int .i64 y.1,.int .i64 y.2]] w1 (Tells (subT x y) w1)):=fun w1=>ksub x.1 x.2 y.1 y.2 w1
      clear hc hc2
      cases hg:subT x y
      all_goals
       rw[hg] at HP
       have HG:=qAZ hg
       clear hg
       go_wp2_with (first
        |(go_at_call 122
          refine(HP.out _).mono ?_
          rintro e w2 ⟨rfl,hb2⟩
          have Hb2:=qAZ (((HB.out.alloc hs _).alloc qf _).trans (hb2.mono qf))
          clear hb2))
      · go_ret
        exact⟨by rw[qDS HX.out HY.out HG.out];rfl,Hb2.out⟩
      · refine⟨⟨k+1,by omega,by simp,qDC HE.out HX.out HY.out HG.out,Hb2.out⟩,by simp[intOf];omega⟩
    · exact jt
 · have h1:((n:Int) != (m:Int))=true:=by simp;omega
   have h2:(n != m)=true:=by simpa using hnm
   have HNM:=qAZ hnm
   clear hnm
   go_enter Tryz.func121,Tryz.ntmps121
   go_wp2_with fail
   go_ret
   refine⟨?_,qAe _ _⟩
   rw[qC5 (fun e=>HNM.out jS)]
   rfl
theorem qI8 (n:Nat) (w:World) (hn:n≤1000000000):
 Calls Tryz.prog 95 #[.slice none 0 0,.int .i64 (n:Nat)] w fun e w'=>∃v,e= .returned v∧w'.ownsRow w.heap.size 58 2 v 0 (T2 [])∧Below w.heap.size w w':=by
 rcases Nat.eq_zero_or_pos n with h|h
 · subst h
   go_enter Tryz.func95,Tryz.ntmps95
   go_wp2
   exact jb
 · go_enter Tryz.func95,Tryz.ntmps95
   go_wp2_with (at_builtin
                refine qEO _ rfl (.tmp 20) (.tmp 21) rfl n h hn rfl rfl ?_
                intro G w1 hG hG2 hown hb
                have hG3:G≤9223372036854775807:=by unfold maxLen at hG2;omega
                have HO:=qAZ hown
                clear hown hG2)
   go_ret
   exact⟨_,rfl,HO.out,hb⟩
theorem qDJ (xss:List (List Typ)) (k:Nat):(xss.take k).flatten.length≤xss.flatten.length:=by
 conv=>rhs;rw[←List.take_append_drop k xss,List.flatten_append]
 rw[List.length_append]
 omega
theorem qED {xss:List (List Typ)} {k:Nat} {x:List Typ} (h:xss[k]? =some x):(xss.take (k+1)).flatten=(xss.take k).flatten++x:=by
 obtain⟨hk,rfl⟩:=qAh.1 h
 rw[qAu hk,List.flatten_append]
 simp
theorem qCa (A:Option Addr) (n c:Nat) (xss:List (List Typ)) (w:World) (hl:xss.length=n) (hR:Sq tysL (·<w.heap.size) w A xss) (hn:xss.flatten.length≤1000000) (hn2:n≤1000000):
 Calls Tryz.prog 68 #[.slice A n c] w fun e w'=>∃v,e= .returned v∧w'.ownsRow w.heap.size 58 2 v xss.flatten.length (T2 xss.flatten)∧Below w.heap.size w w':=by
 have HL:=qAZ hl
 have HR:=qAZ hR
 clear hl hR
 go_enter Tryz.func68,Tryz.ntmps68
 go_wp2_with fail
 go_loop [3,11] (fun s i=>∃k:Nat,k≤n∧i= .int .i64 (k:Nat)∧s= .int .i64 (((xss.take k).flatten.length:Nat):Int)) (fun _ i=>n-(intOf i).toNat)
 case atStart=>exact⟨0,qAs _,rfl,by simp⟩
 case round=>
  obtain⟨k,hk,rfl,rfl⟩:=hrel
  have hle:=qDJ xss k
  obtain⟨m,hm⟩:∃m,(xss.take k).flatten.length=m:=⟨_,rfl⟩
  rw[hm] at hle⊢
  have HM:=qAZ hm
  clear hm
  by_cases hlt:k<n
  · obtain⟨x,hx⟩:∃x,xss[k]? =some x:=⟨xss[k]'qd,qAa _⟩
    obtain⟨a,cs,rfl,hab,hc,hr⟩:=HR.out.at hx
    obtain⟨A2,d2,rfl,-,-,-⟩:=hr
    have hcell:=qBC (K:=tysL.k) rfl (hc 0 _ rfl)
    clear hc
    have HF:=qAZ (qED hx)
    have hle2:=qDJ xss (k+1)
    rw[HF.out,List.length_append,HM.out] at hle2
    clear hx
    go_wp2_with fail
    refine⟨⟨k+1,by omega,by simp,?_⟩,by simp[intOf];omega⟩
    rw[HF.out,List.length_append,HM.out]
    simp
  · obtain rfl:k=n:=by omega
    have HE:Hid (m=xss.flatten.length):=by
     show m=xss.flatten.length
     rw[←HM.out,qAr qZ]
    go_wp2_with fail
    refine(qI8 m w (by omega)).mono ?_
    rintro e w1 ⟨v1,rfl,hown1,hb1⟩
    have HO1:=qAZ hown1
    have HB1:=qAZ hb1
    clear hown1 hb1
    go_wp2_with fail
    go_loopw [6,27] (fun s i wr=>∃j:Nat,j≤k∧i= .int .i64 (j:Nat)∧wr.ownsRow w.heap.size 58 2 s (xss.take j).flatten.length (T2 (xss.take j).flatten)∧Below w.heap.size w wr) (fun _ i _=>k-(intOf i).toNat)
    case atStart=>exact⟨0,qAs _,rfl,by simpa using HO1.out,HB1.out⟩
    case round=>
     obtain⟨j,hj,rfl,hown,hbel⟩:=hrel
     have HO:=qAZ hown
     have HB:=qAZ hbel
     have hs:=hbel.size
     clear hown hbel
     have hlej:=qDJ xss j
     by_cases hlt2:j<k
     · obtain⟨x,hx⟩:∃x,xss[j]? =some x:=⟨xss[j]'(by rw[HL.out];exact hlt2),qAa _⟩
       obtain⟨a,cs,rfl,hab,hc,hr⟩:=HR.out.at hx
       obtain⟨A2,d2,rfl,-,-,hsq⟩:=hr
       have hcell2:=(HB.out.cell (p:=a.add j) qE).trans (qBC (K:=tysL.k) rfl (hc 0 _ rfl))
       clear hc
       have HF:=qAZ (qED hx)
       have hle2:=qDJ xss (j+1)
       rw[HF.out,List.length_append] at hle2
       have HY:=qAZ hsq
       clear hx hsq
       obtain⟨q,hq⟩:∃q,(xss.take j).flatten=q:=⟨_,rfl⟩
       have HQ:=qAZ hq
       have HO2:Hid (wr.ownsRow w.heap.size 58 2 u6 q.length (T2 q)):=by
        show wr.ownsRow w.heap.size 58 2 u6 q.length (T2 q)
        rw[←hq];exact HO.out
       rw[hq] at hle2 hlej
       clear hq HO
       go_wp2_with (at_builtin
                    refine qBb _ rfl (.tmp 31) (.tmp 32) rfl w.heap.size u6 q.length q rfl HO2.out A2 x.length d2 x rfl rfl (·<w.heap.size) (HY.out.below HB.out (qAf _)) (by omega) hs ?_
                    intro v2 w2 hown2 hg2 _
                    have HO3:=qAZ hown2
                    clear hown2)
       refine⟨⟨j+1,by omega,by simp,?_,HB.out.grown hg2 hs (fun i hi=>(HO2.out.lt i hi).1)⟩,by simp[intOf];omega⟩
       rw[HF.out,HQ.out,List.length_append]
       exact HO3.out
     · obtain rfl:j=k:=by omega
       go_wp2_with fail
       go_ret
       refine⟨_,rfl,?_,HB.out⟩
       have:=HO.out
       rw[qAr qZ] at this
       exact this
def Moved (r:Option (List Typ)) (w:World) (e:Ending) (w':World):Prop:=
 Below w.heap.size w w'∧((r=none∧e= .returned (.tuple #[.slice none 0 0,.bool false]))∨∃t v,r=some t∧e= .returned (.tuple #[v,.bool true])∧w'.ownsRow w.heap.size 58 2 v t.length (T2 t))
theorem qCN {s ins outs:List Typ} (h:s.length<ins.length):movB s ins outs=none:=by
 rw[movB,if_neg]
 omega
theorem qCm {s ins outs:List Typ} {b:Nat} (hb:s.length-ins.length=b) (h:belowT (s.drop b) ins=false):movB s ins outs=none:=by
 rw[movB,if_neg]
 rw[hb,h]
 simp
theorem qCx {s ins outs:List Typ} {b:Nat} (hb:s.length-ins.length=b) (h:8<b+outs.length):movB s ins outs=none:=by
 rw[movB,if_neg]
 omega
theorem qCl {s ins outs:List Typ} {b:Nat} (hb:s.length-ins.length=b) (hl:ins.length≤s.length) (h:belowT (s.drop b) ins=true) (h8:b+outs.length≤8):movB s ins outs=some (s.take b++outs):=by
 rw[movB,hb,if_pos ⟨hl,h8,h⟩]
theorem qG0 {S:Nat→Prop} {w:World} {D:Option Addr} {ts:List Typ} {b:Nat} (h:Sq typL S w D ts) (D':Option Addr) (h':b<ts.length→D'=D.map (·.add (b*2))):Sq typL S w D' (ts.drop b):=fun hn=>by
 have hl:(ts.drop b).length=ts.length-b:=by simp
 rw[h' (by omega)]
 exact h.drop b hn
theorem qEv {s r:List Typ} {x:Typ} (h:s.reverse=x::r):topB s 0=x:=by
 have e:s=r.reverse++[x]:=by rw[←List.reverse_reverse s,h];simp
 subst e
 simp[topB]
theorem topB_1 {s r:List Typ} {x y:Typ} (h:s.reverse=x::y::r):topB s 1=y:=by
 have e:s=r.reverse++[y,x]:=by rw[←List.reverse_reverse s,h];simp
 subst e
 simp[topB]
def chgB (m:Mod) (f:Fn) (i:Ins) (s:List Typ):List Typ×List Typ:=
 if i.1=6 then ([topB s 0],[topB s 0,topB s 0])
 else if i.1=7 then ([topB s 1,topB s 0],[topB s 0,topB s 1])
 else if i.1=41 then ([(5,(topB s 0).2)],[])
 else (ruleB m f i s).getD ([],[])
theorem qI0 {α:Type} {c:Prop} [Decidable c] {a b:Option α} (ha:∃p,a=some p) (hb:∃p,b=some p):∃p,(if c then a else b)=some p:=by
 split
 · exact ha
 · exact hb
theorem qHC {m:Mod} {f:Fn} {i:Ins} {s:List Typ} (h0:0≤i.2.1) (hn:namedB m f i=true) (h6:i.1≠6) (h7:i.1≠7) (h41:i.1≠41):∃p,ruleB m f i s=some p:=by
 by_cases h25:i.1=25
 · simp[namedB,h25] at hn
   have hj:i.2.1.toNat<m.funcs.length:=by omega
   exact⟨(_,_),by simp[ruleB,h25,hj];exact⟨rfl,rfl⟩⟩
 by_cases h27:i.1=27
 · simp[namedB,h27] at hn
   have hj:i.2.1.toNat<m.imps.length:=by omega
   exact⟨(_,_),by simp[ruleB,h27,hj];exact⟨rfl,rfl⟩⟩
 by_cases h28:i.1=28
 · simp[namedB,h28] at hn
   have hj:i.2.1.toNat<m.recs.length:=by omega
   exact⟨(_,_),by simp[ruleB,h28,hj];exact⟨rfl,rfl⟩⟩
 · simp only[ruleB,h6,h7,h41,h25,h27,h28,if_false]
   repeat(first|refine qI0 ⟨_,rfl⟩ ?_|exact⟨_,rfl⟩)
theorem qIZ {m:Mod} {f:Fn} {i:Ins} {s:List Typ} (h0:0≤i.2.1) (hn:namedB m f i=true):(match ruleB m f i s with|none=>none|some p=>movB s p.1 p.2)=movB s (chgB m f i s).1 (chgB m f i s).2:=by
 by_cases h6:i.1=6
 · cases hs:s.reverse with
   |nil=>
    obtain rfl:s=[]:=by simpa using hs
    rw[qCN (by simp[chgB,h6])]
    simp[ruleB,h6]
   |cons x r=>simp[ruleB,chgB,h6,hs,qEv hs]
 by_cases h7:i.1=7
 · cases hs:s.reverse with
   |nil=>
    obtain rfl:s=[]:=by simpa using hs
    rw[qCN (by simp[chgB,h7])]
    simp[ruleB,h7]
   |cons x r=>
    cases r with
    |nil=>
     have hl:s.length=1:=by rw[←List.length_reverse,hs];rfl
     rw[qCN (by simp[chgB,h7,hl])]
     simp[ruleB,h7,hs]
    |cons y r=>simp[ruleB,chgB,h7,hs,qEv hs,topB_1 hs]
 by_cases h41:i.1=41
 · cases hs:s.reverse with
   |nil=>
    obtain rfl:s=[]:=by simpa using hs
    rw[qCN (by simp[chgB,h41])]
    simp[ruleB,h41]
   |cons x r=>
    have e:s=r.reverse++[x]:=by rw[←List.reverse_reverse s,hs];simp
    by_cases h5:x.1=5
    · have ex:(5,x.2)=x:=Prod.ext h5.symm rfl
      simp[ruleB,chgB,h41,hs,qEv hs,h5,ex]
    · have hb:belowT (s.drop (s.length-1)) [(5,x.2)]=false:=by
       subst e
       simp[belowT,subT,subB,refB,h5]
      rw[qCm (b:=s.length-1) (by simp[chgB,h41]) (by simpa[chgB,h41,qEv hs] using hb)]
      simp[ruleB,h41,hs,h5]
 · obtain⟨p,hp⟩:=qHC (s:=s) h0 hn h6 h7 h41
   simp[chgB,h6,h7,h41,hp]
theorem ins_chg {m:Mod} {f:Fn} {i:Ins} {pc:Nat} {s:List Typ} (h0:0≤i.2.1) (hn:namedB m f i=true):
 insB8 m f i pc s=(match movB s (chgB m f i s).1 (chgB m f i s).2 with|none=>(4,[],[])|some t=>match nextB f i pc with|none=>(1,[],[])|some l=>(0,t,l)):=by
 rw[←qIZ h0 hn,insB8]
 cases ruleB m f i s with
 |none=>rfl
 |some p=>rfl
def follB (i:Ins) (pc:Int):List Int:=if i.1=26 then [] else if i.1=23 then [i.2.1] else if i.1=24 then [pc+1,i.2.1] else [pc+1]
def Nums (l:List Int) (w:World) (e:Ending) (w':World):Prop:=Below w.heap.size w w'∧∃v,e= .returned v∧w'.ownsRow w.heap.size 3 1 v l.length (Is l)
theorem qFj {w:World} {g N:Nat} {x:Int} (h:Blk w g 3 #[.int .i64 x]) (hg:N≤g):w.ownsRow N 3 1 (.slice (some ⟨g,0,none⟩) 1 1) 1 (Is [x]):=
 ⟨rfl,.inr ⟨g,1,_,rfl,hg,h,qAf _,by simp[maxLen],rfl,rfl⟩⟩
theorem qIs {w:World} {g N:Nat} {x y:Int} (h:Blk w g 3 #[.int .i64 x,.int .i64 y]) (hg:N≤g):w.ownsRow N 3 1 (.slice (some ⟨g,0,none⟩) 2 2) 2 (Is [x,y]):=
 ⟨rfl,.inr ⟨g,2,_,rfl,hg,h,qAf _,by simp[maxLen],rfl,rfl⟩⟩
theorem qGj (o a b pc:Int) (w:World) (hp:0≤pc) (hp2:pc≤1000000):Calls Tryz.prog 119 #[.agg #[.int .i64 o,.int .i64 a,.int .i64 b],.int .i64 pc] w (Nums (follB (o,a,b) pc) w):=by
 by_cases h26:o=26
 · subst h26
   go_enter Tryz.func119,Tryz.ntmps119
   go_wp2_with fail
   go_ret
   exact⟨qAj _ _,_,rfl,⟨rfl,.inl ⟨rfl,rfl⟩⟩⟩
 by_cases h23:o=23
 · subst h23
   go_enter Tryz.func119,Tryz.ntmps119
   go_wp2_with fail
   go_ret
   exact⟨(qAj _ _).alloc (by simp) _,_,rfl,qFj (qAm (by simp)) (by simp)⟩
 by_cases h24:o=24
 · subst h24
   go_enter Tryz.func119,Tryz.ntmps119
   go_wp2_with fail
   go_ret
   exact⟨(qAj _ _).alloc (by simp) _,_,rfl,qIs (qAm (by simp)) (by simp)⟩
 · have e26:(o==26)=false:=by simpa using h26
   have e23:(o==23)=false:=by simpa using h23
   have e24:(o==24)=false:=by simpa using h24
   have HF:Hid (follB (o,a,b) pc=[pc+1]):=by show follB _ _=_;simp[follB,h26,h23,h24]
   clear h26 h23 h24
   go_enter Tryz.func119,Tryz.ntmps119
   go_wp2_with fail
   go_ret
   refine⟨(qAj _ _).alloc (by simp) _,_,rfl,?_⟩
   rw[HF.out]
   exact qFj (qAm (by simp)) (by simp)
theorem qGi (A:Option Addr) (n c:Nat) (l:List Int) (y:Int) (w:World) (hl:l.length=n) (hn:n≤1000) (h:∀j x,l[j]? =some x→∃a,A=some a∧w.cell? (a.add j)=some (.int .i64 x)):
 Calls Tryz.prog 152 #[.slice A n c,.int .i64 y] w fun e w'=>∃z:Int,e= .returned (.int .i64 z)∧w'=w∧(0≤z↔y∈l):=by
 have HL:=qAZ hl
 have HS:=qAZ h
 clear hl h
 go_enter Tryz.func152,Tryz.ntmps152
 go_wp2_with fail
 go_loop [8] (fun i=>∃k:Nat,k≤n∧i= .int .i64 (k:Nat)∧¬y∈l.take k) (fun i=>n-(intOf i).toNat)
 case atStart=>exact⟨0,qAs _,rfl,by simp⟩
 case round=>
  obtain⟨k,hk,rfl,hno⟩:=hrel
  have HN:=qAZ hno
  clear hno
  by_cases hlt:k<n
  · obtain⟨x,hx⟩:∃x,l[k]? =some x:=⟨l[k]'qd,qAa _⟩
    obtain⟨a,rfl,hc⟩:=HS.out k x hx
    have HX:=qAZ hx
    clear hx
    by_cases hxy:y=x
    · subst hxy
      go_wp2_with fail
      go_ret
      exact⟨_,rfl,rfl,fun _=>qAk HX.out,fun _=>by simp⟩
    · have e1:(y==x)=false:=by simpa using hxy
      have HXY:=qAZ hxy
      clear hxy
      go_wp2_with fail
      refine⟨⟨k+1,by omega,by simp,?_⟩,by simp[intOf];omega⟩
      obtain⟨hk2,e⟩:=qAh.1 HX.out
      rw[qAu hk2,e]
      simp only[List.mem_append,List.mem_singleton,not_or]
      exact⟨HN.out,HXY.out⟩
  · obtain rfl:k=n:=by omega
    go_wp2_with fail
    go_ret
    refine⟨_,rfl,rfl,fun h=>absurd h (by omega),fun h=>absurd h ?_⟩
    have:=HN.out
    rwa [qAr qZ] at this
theorem qEU (A:Option Addr) (n c:Nat) (l:List Int) (y:Int) (w:World) (hl:l.length=n) (hn:n≤1000) (h:∀j x,l[j]? =some x→∃a,A=some a∧w.cell? (a.add j)=some (.int .i64 x)):
 Calls Tryz.prog 120 #[.slice A n c,.int .i64 y] w fun e w'=>e= .returned (.bool (decide (y∈l)))∧w'=w:=by
 have HI:=qAZ (qGi A n c l y w hl hn h)
 clear h hl hn
 go_enter Tryz.func120,Tryz.ntmps120
 go_wp2_with fail
 refine(HI.out).mono ?_
 rintro e w1 ⟨z,rfl,rfl,hz⟩
 have HZ:=qAZ hz
 clear hz
 go_wp2_with fail
 go_ret
 refine⟨?_,rfl⟩
 have:decide (0≤z)=decide (y∈l):=by rw[decide_eq_decide];exact HZ.out
 rw[←this]
 rfl
theorem qD5 {w:World} {N n:Nat} {v:Value} {l:List Int} (h:w.ownsRow N 3 1 v n (Is l)):∃A c,v= .slice A n c∧n=l.length∧n≤c∧(∀j x,l[j]? =some x→∃a,A=some a∧N≤a.block∧a.block<w.heap.size∧w.cell? (a.add j)=some (.int .i64 x)):=by
 have hn:n=l.length:=by have:=h.1;rw[qIN] at this;omega
 rcases h.2 with⟨rfl,h0⟩|⟨g,cap,cur,rfl,hb,hg,hnc,hcm,_,_⟩
 · refine⟨none,0,by rw[h0],hn,by omega,fun j x hx=> ?_⟩
   have:=(qAh.1 hx).1
   omega
 · exact⟨some ⟨g,0,none⟩,cap,rfl,hn,hnc,fun j x hx=>⟨_,rfl,hb,(Array.getElem?_eq_some_iff.1 hg).1,h.cells rfl j _ (qJd hx)⟩⟩
theorem qBf {x:Mod} {fn:Fn} (h:checkN x=0) (hf:fn∈x.funcs):fn.args.length≤4∧fn.locs.length≤8∧fn.code.length≤64∧∀i∈fn.code,goodIn i=true∧namedB x fn i=true:=by
 have hF:=qBJ.1 (qBI h)
 have ho:=hF.funcs fn hf
 simp only[fnOk,Bool.and_eq_true,qBv] at ho
 have hb:badM x=false:=by
  cases hb:badM x
  · rfl
  · rw[qEI (qBI h) hb] at h;cases h
 refine⟨by omega,by omega,by omega,fun i hi=>⟨ho.2.2 i hi,?_⟩⟩
 cases hn:namedB x fn i
 · rw[qDU hf (qF5 hi hn)] at hb;cases hb
 · rfl
theorem qIX {x:Mod} {p:Imp} (h:checkN x=0) (hf:p∈x.imps):p.args.length≤4:=by
 have ho:=(qBJ.1 (qBI h)).imps p hf
 simp only[impOk,Bool.and_eq_true,qBv] at ho
 omega
theorem qIW {x:Mod} {r:List Typ} (h:checkN x=0) (hf:r∈x.recs):r.length≤6:=by
 have ho:=(qBJ.1 (qBI h)).recs r hf
 simp only[recOk,qBv] at ho
 omega
def short2 (p:List Typ×List Typ):Prop:=p.1.length≤8∧p.2.length≤8
theorem qDO {c:Prop} [Decidable c] {a b:List Typ×List Typ} (ha:short2 a) (hb:short2 b):short2 (if c then a else b):=by
 split
 · exact ha
 · exact hb
theorem qGG {c:Prop} [Decidable c] {a b:Option (List Typ×List Typ)} (ha:short2 (a.getD ([],[]))) (hb:short2 (b.getD ([],[]))):short2 ((if c then a else b).getD ([],[])):=by
 split
 · exact ha
 · exact hb
theorem qG5 {x:Mod} {f:Fn} {i:Ins} {s:List Typ} (h:checkN x=0):short2 (chgB x f i s):=by
 have e0:short2 ((none:Option (List Typ×List Typ)).getD ([],[])):=⟨by simp,by simp⟩
 unfold chgB
 refine qDO ⟨by simp,by simp⟩ (qDO ⟨by simp,by simp⟩ (qDO ⟨by simp,by simp⟩ ?_))
 unfold ruleB
 repeat(first
  |(refine qGG ?_ ?_
    (first
     |(refine⟨?_,?_⟩<;>(simp<;>done))
     |(split
       · rename_i g hg
         first
         |exact⟨by have:=(qBf h (qAk hg)).1;simp;omega,by simp⟩
         |exact⟨by have:=qIX h (qAk hg);simp;omega,by simp⟩
         |exact⟨by have:=qIW h (qAk hg);simp;omega,by simp⟩
       · exact e0)
     |(split<;>first|exact e0|(refine⟨?_,?_⟩<;>(simp<;>done))|(split<;>first|exact e0|(refine⟨?_,?_⟩<;>(simp<;>done))))))
  |(refine⟨?_,?_⟩<;>(simp<;>done)))
theorem qHa {x:Mod} {f:Fn} {i:Ins} {p:Nat} (hn:namedB x f i=true) (hp:p<f.code.length):nextB f i p=if ((f.code.length:Nat):Int)∈follB i (p:Int) then none else some (follB i (p:Int)):=by
 unfold nextB follB
 by_cases h26:i.1=26
 · simp[h26]
 by_cases h23:i.1=23
 · simp[namedB,h23] at hn
   simp[h23]
   omega
 by_cases h24:i.1=24
 · simp[namedB,h24] at hn
   by_cases hq:f.code.length≤p+1
   · have hq2:((f.code.length:Nat):Int)=(p:Int)+1:=by omega
     simp[h24,hq,hq2]
   · have hq2:¬((f.code.length:Nat):Int)=(p:Int)+1:=by omega
     have hq3:¬((f.code.length:Nat):Int)=i.2.1:=by omega
     simp[h24,hq,hq2,hq3]
 · simp only[h26,h23,h24,if_false,List.mem_singleton]
   by_cases hq:f.code.length≤p+1
   · rw[if_pos hq,if_pos (by omega)]
   · rw[if_neg hq,if_neg (by omega)]
def joinT (a b:Typ):Typ:=(joinK a.1 a.2 b.1 b.2,joinN a.1 a.2 b.1 b.2)
def canT (t:Typ):Prop:=t.1=6∨t.1=7∨t.1=8→t.2=0
def rkT (t:Typ):Nat:=if t.1=8 then 0 else if t.1=7 then 1 else if t.1=6 then 3 else 2
def joinL:List Typ→List Typ→List Typ
 |a::xs,b::ys=>joinT a b::joinL xs ys
 |_,_=>[]
def canL (s:List Typ):Prop:=∀t∈s,canT t
def rkL:List Typ→Nat
 |[]=>0
 |t::ts=>rkT t+rkL ts
abbrev Shp:=Nat→Option (List Typ)
def leO (a b:Option (List Typ)):Prop:=∀s,a=some s→∃r,b=some r∧belowT s r=true
def leS (S R:Shp):Prop:=∀p,leO (S p) (R p)
def okAt (m:Mod) (fn:Fn) (S:Shp) (p:Nat):Prop:=∀s,S p=some s→∃i t l,fn.code[p]? =some i∧insB8 m fn i p s=(0,t,l)∧∀k∈l,leO (some t) (S k.toNat)
structure RightF (m:Mod) (fn:Fn) (S:Shp):Prop where
 zero:S 0=some []
 at_:∀p,p<fn.code.length→okAt m fn S p
structure Run (m:Mod) (fn:Fn) (S:Shp):Prop where
 zero:S 0=some []
 out:∀p,fn.code.length≤p→S p=none
 least:∀R,RightF m fn R→leS S R
 can:∀p s,S p=some s→canL s∧s.length≤8
def S0:Shp:=fun p=>if p=0 then some [] else none
def Und (m:Mod) (fn:Fn) (p:Nat) (s:List Typ):Prop:=∀R,RightF m fn R→leO (some s) (R p)
def putS (S:Shp) (k:Nat) (s:List Typ):Shp:=fun p=>if p=k then some s else S p
def rkO:Option (List Typ)→Nat
 |none=>25
 |some s=>rkL s
def rkS (S:Shp):Nat→Nat
 |0=>0
 |n+1=>rkS S n+rkO (S n)
def canO (o:Option (List Typ×List Typ)):Prop:=∀p,o=some p→canL p.2
theorem qEC {m:Mod} {f:Fn} {i:Ins} {p:Nat} {s t:List Typ} {l:List Int} (hc:checkN m=0) (hf:f∈m.funcs) (hi:f.code[p]? =some i) (h:insB8 m f i p s=(0,t,l)):∀k∈l,0≤k∧k.toNat<f.code.length:=by
 obtain⟨-,-,-,q4⟩:=qBf hc hf
 obtain⟨hg,hn⟩:=q4 i (qAk hi)
 obtain⟨o1,x1,y1,e1,e2,e3,-,-,-⟩:=qBF hg
 have hp:=(qAh.1 hi).1
 have hl:nextB f i p=some l:=by
  unfold insB8 at h
  split at h
  · simp at h
  · split at h
    · simp at h
    · split at h
      · simp at h
      · rename_i l' hl
        simp only[Prod.mk.injEq,true_and] at h
        rw[hl,h.2]
 intro k hk
 by_cases h26:i.1=26
 · simp[nextB,h26] at hl
   subst hl
   simp at hk
 by_cases h23:i.1=23
 · simp[nextB,h23] at hl
   simp[namedB,h23] at hn
   subst hl
   simp at hk
   omega
 by_cases hlast:f.code.length≤p+1
 · simp[nextB,h26,h23,hlast] at hl
 by_cases h24:i.1=24
 · simp[nextB,h24,hlast] at hl
   simp[namedB,h24] at hn
   subst hl
   simp at hk
   omega
 · simp[nextB,h26,h23,h24,hlast] at hl
   subst hl
   simp at hk
   omega
abbrev Shape:=Bool×List Typ
def shO (x:Shape):Option (List Typ):=if x.1 then some x.2 else none
def toS (l:List Shape):Shp:=fun p=>(l[p]?).bind shO
theorem qBk {l:List Shape} {p:Nat} {s:List Typ} (h:l[p]? =some (true,s)):toS l p=some s:=by simp[toS,h,shO]
theorem qEw {l:List Shape} {p:Nat} {s:List Typ} (h:l[p]? =some (false,s)):toS l p=none:=by simp[toS,h,shO]
theorem qDx {l:List Shape} {p:Nat} {s:List Typ} (h:toS l p=some s):l[p]? =some (true,s):=by
 unfold toS at h
 cases e:l[p]? with
 |none=>rw[e] at h;cases h
 |some x=>
  obtain⟨b,u⟩:=x
  rw[e] at h
  cases b
  · simp[shO] at h
  · simp[shO] at h;subst h;rfl
structure Least (m:Mod) (fn:Fn) (l:List Shape):Prop where
 len:l.length=fn.code.length
 out:∀(p:Nat) (s:List Typ),l[p]? =some (false,s)→s=[]
 run:Run m fn (toS l)
 ok:∀p,p<fn.code.length→okAt m fn (toS l) p
def Never (m:Mod) (fn:Fn):Prop:=¬∃R,RightF m fn R
structure LeastM (m:Mod) (L:List (List Shape)):Prop where
 len:L.length=m.funcs.length
 at_:∀(j:Nat) (fn:Fn) (l:List Shape),m.funcs[j]? =some fn→L[j]? =some l→Least m fn l
def NeverM (m:Mod):Prop:=∃fn∈m.funcs,Never m fn
theorem LeastM.get {m:Mod} {L:List (List Shape)} (h:LeastM m L) {j:Nat} {fn:Fn} (hf:m.funcs[j]? =some fn):∃l,L[j]? =some l∧Least m fn l:=by
 have hj:=(qAh.1 hf).1
 have e:L[j]? =some (L[j]'(by rw[h.len];exact hj)):=qAa _
 exact⟨_,e,h.at_ j fn _ hf e⟩
structure RightM (m:Mod) (L:List (List Shape)):Prop where
 len:L.length=m.funcs.length
 at_:∀(j:Nat) (fn:Fn) (l:List Shape),m.funcs[j]? =some fn→L[j]? =some l→l.length=fn.code.length∧(∀x∈l,x.2.length≤8)∧RightF m fn (toS l)
theorem RightM.get {m:Mod} {L:List (List Shape)} (h:RightM m L) {j:Nat} {fn:Fn} (hf:m.funcs[j]? =some fn):∃l,L[j]? =some l∧l.length=fn.code.length∧(∀x∈l,x.2.length≤8)∧RightF m fn (toS l):=by
 have hj:=(qAh.1 hf).1
 have e:L[j]? =some (L[j]'(by rw[h.len];exact hj)):=qAa _
 exact⟨_,e,h.at_ j fn _ hf e⟩
theorem LeastM.least {m:Mod} {L R:List (List Shape)} (h:LeastM m L) (h':RightM m R) {j p:Nat} {l:List Shape} {s:List Typ} (hl:L[j]? =some l) (hp:l[p]? =some (true,s)):∃r t,R[j]? =some r∧r[p]? =some (true,t)∧belowT s t=true:=by
 have hj:j<m.funcs.length:=by rw[←h.len];exact(qAh.1 hl).1
 have hf:m.funcs[j]? =some m.funcs[j]:=qAa hj
 obtain⟨r,hr,-,-,hR⟩:=h'.get hf
 obtain⟨t,ht,hb⟩:=(h.at_ j _ l hf hl).run.least _ hR p s (qBk hp)
 exact⟨r,t,hr,qDx ht,hb⟩
def putF (t:List Typ):List Int→List Shape→Option (List Shape)
 |[],l=>some l
 |k::ks,l=>
  match l[k.toNat]? with
  |none=>none
  |some (false,_)=>putF t ks (l.set k.toNat (true,t))
  |some (true,u)=>if u.length=t.length then putF t ks (l.set k.toNat (true,joinL u t)) else none
def stepF (m:Mod) (fn:Fn) (l:List Shape) (p:Nat):Option (List Shape):=
 match l[p]?,fn.code[p]? with
 |some (true,s),some i=>if (insB8 m fn i p s).1=0 then putF (insB8 m fn i p s).2.1 (insB8 m fn i p s).2.2 l else none
 |_,_=>some l
def stepsF (m:Mod) (fn:Fn):List Nat→List Shape→Option (List Shape)
 |[],l=>some l
 |p::ps,l=>(stepF m fn l p).bind (stepsF m fn ps)
def okF (m:Mod) (fn:Fn) (l:List Shape) (p:Nat):Bool:=
 match l[p]?,fn.code[p]? with
 |some (true,s),some i=>(insB8 m fn i p s).1==0 && (insB8 m fn i p s).2.2.all fun k=>match l[k.toNat]? with
  |some (true,u)=>belowT (insB8 m fn i p s).2.1 u
  |_=>false
 |some (true,_),none=>false
 |_,_=>true
def outF (x:Shape):Bool:=x.1 || x.2.isEmpty
structure RunF (m:Mod) (fn:Fn) (l:List Shape):Prop where
 len:l.length=fn.code.length
 run:Run m fn (toS l)
def beginF (n:Nat):List Shape:=(List.replicate n (false,[])).set 0 (true,[])
theorem okF_ok {m:Mod} {fn:Fn} {l:List Shape} {p:Nat} (h:okF m fn l p=true):okAt m fn (toS l) p:=by
 intro s hs
 have hs:=qDx hs
 unfold okF at h
 rw[hs] at h
 cases hi:fn.code[p]? with
 |none=>rw[hi] at h;simp at h
 |some i=>
  rw[hi] at h
  simp only[Bool.and_eq_true,beq_iff_eq,List.all_eq_true] at h
  refine⟨i,_,_,rfl,Prod.ext h.1 rfl,fun k hk z hz=> ?_⟩
  injection hz with hz
  subst hz
  have:=h.2 k hk
  split at this
  · rename_i u hu
    exact⟨u,qBk hu,this⟩
  · cases this
def stkL:Lay (List Typ) where
 k:=1
 R S w cs xs:=∃A c,cs=[.slice A xs.length c]∧xs.length≤c∧c≤maxLen∧(A=none→c=0)∧Sq typL S w A xs
 len:=by rintro S w cs x ⟨A,c,rfl,_⟩;rfl
 keep:=by rintro S w w' cs x ⟨A,c,rfl,h1,h2,h3,h4⟩ hk;exact⟨A,c,rfl,h1,h2,h3,h4.keep hk⟩
 wide:=by rintro S T w cs x ⟨A,c,rfl,h1,h2,h3,h4⟩ hk;exact⟨A,c,rfl,h1,h2,h3,h4.wide hk⟩
 one:=by rintro S w cs x ⟨A,c,rfl,_⟩ u hu;simp at hu;subst hu;rfl
def shpL:Lay Shape where
 k:=2
 R S w cs x:=∃v,cs=[.bool x.1,v]∧stkL.R S w [v] x.2
 len:=by rintro S w cs x ⟨v,rfl,_⟩;rfl
 keep:=by rintro S w w' cs x ⟨v,rfl,h⟩ hk;exact⟨v,rfl,stkL.keep h hk⟩
 wide:=by rintro S T w cs x ⟨v,rfl,h⟩ hk;exact⟨v,rfl,stkL.wide h hk⟩
 one:=by
  rintro S w cs x ⟨v,rfl,h⟩ u hu
  simp at hu
  rcases hu with rfl|rfl
  · rfl
  · exact stkL.one h _ (by simp)
abbrev rowL:Lay (List Shape):=slL shpL
abbrev mapsL:Lay (List (List Shape)):=slL rowL
theorem qCV {S:Nat→Prop} {w:World} {A:Option Addr} {l:List Shape} (h:Sq shpL S w A l) {k:Nat} {x:Shape} (hk:l[k]? =some x):
 ∃a D c,A=some a∧S a.block∧w.cell? (a.add (k*2))=some (.bool x.1)∧w.cell? ⟨(a.add (k*2)).block,(a.add (k*2)).off+1,none⟩=some (.slice D x.2.length c)∧x.2.length≤c∧c≤maxLen∧(D=none→c=0)∧Sq typL S w D x.2:=by
 obtain⟨a,cs,e,hs,hc,v,rfl,D,c,ev,h1,h2,h3,h4⟩:=h.at hk
 simp only[List.cons.injEq,and_true] at ev
 subst ev
 have c0:=hc 0 _ rfl
 have c1:=hc 1 _ rfl
 rw[show k*shpL.k+0=k*2 from rfl] at c0
 rw[show k*shpL.k+1=k*2+1 from rfl,qAl a (k*2) 1 (by omega)] at c1
 exact⟨a,D,c,e,hs,c0,c1,h1,h2,h3,h4⟩
theorem qCi {S:Nat→Prop} {w:World} {A:Option Addr} {L:List (List Shape)} (h:Sq rowL S w A L) {k:Nat} {l:List Shape} (hk:L[k]? =some l):
 ∃a D c,A=some a∧S a.block∧w.cell? (a.add k)=some (.slice D l.length c)∧l.length≤c∧c≤maxLen∧Sq shpL S w D l:=by
 obtain⟨a,cs,e,hs,hc,D,c,rfl,h1,h2,h3⟩:=h.at hk
 have c0:=hc 0 _ rfl
 rw[show k*rowL.k+0=k by show k*1+0=k;omega] at c0
 exact⟨a,D,c,e,hs,c0,h1,h2,h3⟩
theorem qBD {α:Type} {La:Lay α} {w v:World} {A:Option Addr} {xs:List α} (h:Sq La (·<w.heap.size) w A xs) (hb:Below w.heap.size w v):Sq La (·<v.heap.size) v A xs:=(h.keep fun b h1=>hb.block b h1).wide fun b h1=>qAg h1 hb.size
open Go.ChangeShapes Go.WideShapes Go.ChangeAt Go.RowKit
theorem qHP:Opens 56 stkL:=by
 intro H enc W cs x fuel hf
 obtain⟨ts,A,c,rfl,h1,h2,h3⟩:=qHO hf
 refine⟨ts,A,c,rfl,h1,h2,?_,h3⟩
 rintro rfl
 rcases Go.Deep.open_slice Tryz.underlying56 hf with⟨hcs,_⟩|⟨a,l,c,m,n,D,Pl,hcs,_⟩
 · simp at hcs
   exact hcs.2
 · simp at hcs
theorem qHQ:Opens 76 shpL:=by
 intro H enc W cs x fuel hf
 obtain⟨xs,k,hk,hxy,hl,hxl,hfl⟩:=DataW.trod_struct Tryz.underlying76 hf
 rw[show Tryz.prog.cellsOf 76=2 by kernel_rfl] at hl
 match xs,hxl,cs,hl with
 |[y0,y1],_,[v0,v1],_=>
  have g0:=hfl 0 _ rfl
  have g1:=hfl 1 _ rfl
  simp[show Tryz.prog.cellsOf 4=1 by kernel_rfl,show Tryz.prog.cellsOf 56=1 by kernel_rfl] at g0 g1
  obtain⟨b,e0,_⟩:=DataW.trod_bool Tryz.underlying4 g0
  obtain⟨s,hs⟩:=qHP g1
  simp at e0
  subst e0
  exact⟨(b,s),v1,rfl,hs⟩
theorem qHR:Opens 74 rowL:=qCj jW Tryz.underlying74 qV qHQ
theorem qGT:Opens 41 mapsL:=qCj jW Tryz.underlying41 qV qHR
theorem open_maps {H:Type} {enc:TypeId×Value→H} {W:World} {a:Option Addr} {len cap:Nat} {d:DataW H} {p:List MemPlace} (h:DataW.Trod enc Tryz.prog W 0 (fun _=>true) true 41 (.slice a len cap) d p):
 ∃L:List (List Shape),L.length=len∧mapsL.R (·<W.heap.size) W [.slice a len cap] L:=by
 obtain⟨fuel,hf⟩:=h
 obtain⟨L,hL⟩:=qGT hf
 have hL':mapsL.R (·<W.heap.size) W [.slice a len cap] L:=by simpa[Value.cells] using hL
 have h2:=hL'
 obtain⟨A,c,e,-⟩:=h2
 simp at e
 exact⟨L,e.2.1.symm,hL'⟩
structure Small (x:Mod):Prop where
 recs:∀t∈x.recs,t.length≤3000
 funcs:∀f∈x.funcs,f.args.length≤3000∧f.locs.length≤3000∧f.code.length≤3000
 imps:∀i∈x.imps,i.args.length≤3000
 texts:∀s∈x.texts,s.length≤3000
theorem Fit.small {x:Mod} (h:Fit x):Small x:=by
 refine⟨fun t ht=> ?_,fun f hf=> ?_,fun i hi=> ?_,fun s hs=> ?_⟩
 · have:=qDP (h.recs t ht);omega
 · have:=qCn (h.funcs f hf);omega
 · have:=qC0 (h.imps i hi);omega
 · have:=h.texts s hs;omega
end Go.Proofs.YtconajaecpgjgaaGreat
