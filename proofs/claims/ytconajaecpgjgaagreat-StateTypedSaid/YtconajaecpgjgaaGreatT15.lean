/-
Ixwhn Ixwob Ixhgh Jb Jp Jin Fon1 Fon2 Fon3 Fon4 Fon Ffw Ffn
-/
import Derived.Test.YtconajaecpgjgaaGreatT01
import Derived.Test.YtconajaecpgjgaaGreatT02
import Derived.Test.YtconajaecpgjgaaGreatT07
import Derived.Test.YtconajaecpgjgaaGreatT08
import Derived.Test.YtconajaecpgjgaaGreatT09
import Derived.OwnWalk
set_option linter.unusedSimpArgs false
set_option linter.unusedVariables false
set_option maxRecDepth 100000
set_option maxHeartbeats 4000000
namespace Go.Proofs.YtconajaecpgjgaaGreat
open Go.RowKit
theorem qHf (A:Option Addr) (n c:Nat) (xs:List Hnd) (g:Hnd→Bool) (w:World) (hl:xs.length=n) (h:Sq hdL (·<w.heap.size) w A xs) (hn2:n≤9223372036854775807)
 (hG:∀(w1:World) (cs:List Value) (x:Hnd),Below w.heap.size w w1→x∈xs→hdL.R (·<w1.heap.size) w1 cs x→Calls Tryz.prog 32 #[vAgg cs] w1 (Tells (g x) w1)):
 Calls Tryz.prog 61 #[.slice A n c,.func (.func 32) #[] #[]] w fun e w'=>∃k:Int,e= .returned (.int .i64 k)∧decide (0≤k)=xs.any g∧Below w.heap.size w w':=by
 have HL:=qAZ hl
 have HS:=qAZ h
 have HP0:=qAZ hG
 clear hl h hG
 go_enter Tryz.func61,Tryz.ntmps61
 go_wp2_with fail
 go_loopw [8] (fun i wr=>∃k:Nat,k≤n∧i= .int .i64 (k:Nat)∧(xs.take k).any g=false∧Below w.heap.size w wr) (fun i _=>n-(intOf i).toNat)
 case atStart=>exact⟨0,qAs _,rfl,by simp,qAe _ _⟩
 case round=>
  obtain⟨k,hk,rfl,hall,hbel⟩:=hrel
  have HA:=qAZ hall
  have HB:=qAZ hbel
  have hs:=hbel.size
  clear hall hbel
  by_cases hlt:k<n
  · skip
    obtain⟨x,hx⟩:∃x,xs[k]? =some x:=⟨xs[k]'qd,qAa _⟩
    have hmem:x∈xs:=qAk hx
    obtain⟨a,cs,rfl,hab,hc,hr⟩:=HS.out.at hx
    have HX:=qAZ hx
    clear hx
    have HR:=qAZ hr
    obtain⟨rfl,-,-⟩:=hr
    have c0:=(HB.out.cell (p:=a.add (k*3)) qE).trans (hc 0 _ rfl)
    have c1:=(HB.out.cell (p:=a.add (k*3+1)) qE).trans (hc 1 _ rfl)
    rw[qAl a (k*3) 1 (by omega)] at c1
    have c2:=(HB.out.cell (p:=a.add (k*3+2)) qE).trans (hc 2 _ rfl)
    rw[qAl a (k*3) 2 (by omega)] at c2
    have HP:Hid (∀w1,Below w.heap.size w w1→Calls Tryz.prog 32 #[.agg #[.int .i64 x.kind,.int .u64 (x.desc:Int),.bool x.opn]] w1 (Tells (g x) w1)):=fun w1 hb=>HP0.out w1 [.int .i64 x.kind,.int .u64 (x.desc:Int),.bool x.opn] x hb hmem (hdL.wide (hdL.keep HR.out fun b hb1=>hb.block b hb1) fun b hb1=>qAg hb1 hb.size)
    clear hc
    have hk0:0≤(k:Int):=by omega
    cases hg:g x
    · rw[hg] at HP
      have HG:=qAZ hg
      clear hg
      go_wp2_with (first
       |(go_at_call 32
         refine(HP.out _ HB.out).mono ?_
         rintro e w2 ⟨rfl,hb2⟩
         have Hb2:=qAZ (HB.out.trans (hb2.mono hs))
         clear hb2))
      exact qo
    · rw[hg] at HP
      have e:xs.any g=true:=qBx hmem hg
      have E:=qAZ e
      clear e hg
      go_wp2_with (first
       |(go_at_call 32
         refine(HP.out _ HB.out).mono ?_
         rintro e w2 ⟨rfl,hb2⟩
         have Hb2:=qAZ (HB.out.trans (hb2.mono hs))
         clear hb2))
      exact zZ
  · exact ql
theorem qBo (A:Option Addr) (n c:Nat) (xs:List Hnd) (g:Hnd→Bool) (w:World) (hl:xs.length=n) (h:Sq hdL (·<w.heap.size) w A xs) (hn2:n≤9223372036854775807)
 (hG:∀(w1:World) (cs:List Value) (x:Hnd),Below w.heap.size w w1→x∈xs→hdL.R (·<w1.heap.size) w1 cs x→Calls Tryz.prog 32 #[vAgg cs] w1 (Tells (g x) w1)):
 Calls Tryz.prog 31 #[.slice A n c,.func (.func 32) #[] #[]] w (Tells (xs.any g) w):=by
 have HC:=qAZ (qHf A n c xs g w hl h hn2 hG)
 clear hl h hG
 generalize xs.any g=ab at*
 go_enter Tryz.func31,Tryz.ntmps31
 go_wp2_with (first|(go_at_call 61;refine HC.out.mono ?_;rintro e w1 ⟨k,rfl,hk,hb⟩;have HB:=qAZ hb;have HK:=qAZ hk;clear hb hk))
 go_ret
 exact⟨by rw[←HK.out];rfl,HB.out⟩
theorem qHe (A:Option Addr) (n c:Nat) (xs:List Ob) (g:Ob→Bool) (p7:Addr) (p8:Addr) (w:World) (hl:xs.length=n) (h:Sq obL (·<w.heap.size) w A xs) (hn2:n≤9223372036854775807)
 (hG:∀(w1:World) (cs:List Value) (x:Ob),Below w.heap.size w w1→x∈xs→obL.R (·<w1.heap.size) w1 cs x→Calls Tryz.prog 63 #[vAgg cs,.pointer (some p7),.pointer (some p8)] w1 (Tells (g x) w1)):
 Calls Tryz.prog 62 #[.slice A n c,.func (.func 63) #[] #[.pointer (some p7),.pointer (some p8)]] w fun e w'=>∃k:Int,e= .returned (.int .i64 k)∧decide (0≤k)=xs.any g∧Below w.heap.size w w':=by
 have HL:=qAZ hl
 have HS:=qAZ h
 have HP0:=qAZ hG
 clear hl h hG
 go_enter Tryz.func62,Tryz.ntmps62
 go_wp2_with fail
 go_loopw [8] (fun i wr=>∃k:Nat,k≤n∧i= .int .i64 (k:Nat)∧(xs.take k).any g=false∧Below w.heap.size w wr) (fun i _=>n-(intOf i).toNat)
 case atStart=>exact⟨0,qAs _,rfl,by simp,qAe _ _⟩
 case round=>
  obtain⟨k,hk,rfl,hall,hbel⟩:=hrel
  have HA:=qAZ hall
  have HB:=qAZ hbel
  have hs:=hbel.size
  clear hall hbel
  by_cases hlt:k<n
  · skip
    obtain⟨x,hx⟩:∃x,xs[k]? =some x:=⟨xs[k]'qd,qAa _⟩
    have hmem:x∈xs:=qAk hx
    obtain⟨a,cs,rfl,hab,hc,hr⟩:=HS.out.at hx
    have HX:=qAZ hx
    clear hx
    have HR:=qAZ hr
    obtain⟨p0,p1,rfl,-,-,⟨A4,d4,e4,-⟩,⟨A5,d5,e5,-⟩⟩:=hr
    simp only[List.cons.injEq,and_true] at e4 e5
    subst e4 e5
    have c0:=(HB.out.cell (p:=a.add (k*4)) qE).trans (hc 0 _ rfl)
    have c1:=(HB.out.cell (p:=a.add (k*4+1)) qE).trans (hc 1 _ rfl)
    rw[qAl a (k*4) 1 (by omega)] at c1
    have c2:=(HB.out.cell (p:=a.add (k*4+2)) qE).trans (hc 2 _ rfl)
    rw[qAl a (k*4) 2 (by omega)] at c2
    have c3:=(HB.out.cell (p:=a.add (k*4+3)) qE).trans (hc 3 _ rfl)
    rw[qAl a (k*4) 3 (by omega)] at c3
    have HP:Hid (∀w1,Below w.heap.size w w1→Calls Tryz.prog 63 #[.agg #[.int .i64 x.kind,.int .i64 x.n,.slice A4 x.words.length d4,.slice A5 x.bytes.length d5],.pointer (some p7),.pointer (some p8)] w1 (Tells (g x) w1)):=fun w1 hb=>HP0.out w1 [.int .i64 x.kind,.int .i64 x.n,.slice A4 x.words.length d4,.slice A5 x.bytes.length d5] x hb hmem (obL.wide (obL.keep HR.out fun b hb1=>hb.block b hb1) fun b hb1=>qAg hb1 hb.size)
    clear hc
    have hk0:0≤(k:Int):=by omega
    cases hg:g x
    · rw[hg] at HP
      have HG:=qAZ hg
      clear hg
      go_wp2_with (first
       |(go_at_call 63
         refine(HP.out _ HB.out).mono ?_
         rintro e w2 ⟨rfl,hb2⟩
         have Hb2:=qAZ (HB.out.trans (hb2.mono hs))
         clear hb2))
      exact qo
    · rw[hg] at HP
      have e:xs.any g=true:=qBx hmem hg
      have E:=qAZ e
      clear e hg
      go_wp2_with (first
       |(go_at_call 63
         refine(HP.out _ HB.out).mono ?_
         rintro e w2 ⟨rfl,hb2⟩
         have Hb2:=qAZ (HB.out.trans (hb2.mono hs))
         clear hb2))
      exact zZ
  · exact ql
theorem qBn (A:Option Addr) (n c:Nat) (xs:List Ob) (g:Ob→Bool) (p7:Addr) (p8:Addr) (w:World) (hl:xs.length=n) (h:Sq obL (·<w.heap.size) w A xs) (hn2:n≤9223372036854775807)
 (hG:∀(w1:World) (cs:List Value) (x:Ob),Below w.heap.size w w1→x∈xs→obL.R (·<w1.heap.size) w1 cs x→Calls Tryz.prog 63 #[vAgg cs,.pointer (some p7),.pointer (some p8)] w1 (Tells (g x) w1)):
 Calls Tryz.prog 33 #[.slice A n c,.func (.func 63) #[] #[.pointer (some p7),.pointer (some p8)]] w (Tells (xs.any g) w):=by
 have HC:=qAZ (qHe A n c xs g p7 p8 w hl h hn2 hG)
 clear hl h hG
 generalize xs.any g=ab at*
 go_enter Tryz.func33,Tryz.ntmps33
 go_wp2_with (first|(go_at_call 62;refine HC.out.mono ?_;rintro e w1 ⟨k,rfl,hk,hb⟩;have HB:=qAZ hb;have HK:=qAZ hk;clear hb hk))
 go_ret
 exact⟨by rw[←HK.out];rfl,HB.out⟩
theorem qHi (A:Option Addr) (n c:Nat) (xs:List Shape) (g:Shape→Bool) (w:World) (hl:xs.length=n) (h:Sq shpL (·<w.heap.size) w A xs) (hn2:n≤9223372036854775807)
 (hG:∀(w1:World) (cs:List Value) (x:Shape),Below w.heap.size w w1→x∈xs→shpL.R (·<w1.heap.size) w1 cs x→Calls Tryz.prog 58 #[vAgg cs] w1 (Tells (g x) w1)):
 Calls Tryz.prog 89 #[.slice A n c,.func (.func 58) #[] #[]] w fun e w'=>∃k:Int,e= .returned (.int .i64 k)∧decide (0≤k)=xs.any g∧Below w.heap.size w w':=by
 have HL:=qAZ hl
 have HS:=qAZ h
 have HP0:=qAZ hG
 clear hl h hG
 go_enter Tryz.func89,Tryz.ntmps89
 go_wp2_with fail
 go_loopw [8] (fun i wr=>∃k:Nat,k≤n∧i= .int .i64 (k:Nat)∧(xs.take k).any g=false∧Below w.heap.size w wr) (fun i _=>n-(intOf i).toNat)
 case atStart=>exact⟨0,qAs _,rfl,by simp,qAe _ _⟩
 case round=>
  obtain⟨k,hk,rfl,hall,hbel⟩:=hrel
  have HA:=qAZ hall
  have HB:=qAZ hbel
  have hs:=hbel.size
  clear hall hbel
  by_cases hlt:k<n
  · skip
    obtain⟨x,hx⟩:∃x,xs[k]? =some x:=⟨xs[k]'qd,qAa _⟩
    have hmem:x∈xs:=qAk hx
    obtain⟨a,cs,rfl,hab,hc,hr⟩:=HS.out.at hx
    have HX:=qAZ hx
    clear hx
    have HR:=qAZ hr
    obtain⟨v9,rfl,A9,d9,e9,-⟩:=hr
    simp only[List.cons.injEq,and_true] at e9
    subst e9
    have c0:=(HB.out.cell (p:=a.add (k*2)) qE).trans (hc 0 _ rfl)
    have c1:=(HB.out.cell (p:=a.add (k*2+1)) qE).trans (hc 1 _ rfl)
    rw[qAl a (k*2) 1 (by omega)] at c1
    have HP:Hid (∀w1,Below w.heap.size w w1→Calls Tryz.prog 58 #[.agg #[.bool x.1,.slice A9 x.2.length d9]] w1 (Tells (g x) w1)):=fun w1 hb=>HP0.out w1 [.bool x.1,.slice A9 x.2.length d9] x hb hmem (shpL.wide (shpL.keep HR.out fun b hb1=>hb.block b hb1) fun b hb1=>qAg hb1 hb.size)
    clear hc
    have hk0:0≤(k:Int):=by omega
    cases hg:g x
    · rw[hg] at HP
      have HG:=qAZ hg
      clear hg
      go_wp2_with (first
       |(go_at_call 58
         refine(HP.out _ HB.out).mono ?_
         rintro e w2 ⟨rfl,hb2⟩
         have Hb2:=qAZ (HB.out.trans (hb2.mono hs))
         clear hb2))
      exact qo
    · rw[hg] at HP
      have e:xs.any g=true:=qBx hmem hg
      have E:=qAZ e
      clear e hg
      go_wp2_with (first
       |(go_at_call 58
         refine(HP.out _ HB.out).mono ?_
         rintro e w2 ⟨rfl,hb2⟩
         have Hb2:=qAZ (HB.out.trans (hb2.mono hs))
         clear hb2))
      exact zZ
  · exact ql
theorem qFD (A:Option Addr) (n c:Nat) (xs:List Shape) (g:Shape→Bool) (w:World) (hl:xs.length=n) (h:Sq shpL (·<w.heap.size) w A xs) (hn2:n≤9223372036854775807)
 (hG:∀(w1:World) (cs:List Value) (x:Shape),Below w.heap.size w w1→x∈xs→shpL.R (·<w1.heap.size) w1 cs x→Calls Tryz.prog 58 #[vAgg cs] w1 (Tells (g x) w1)):
 Calls Tryz.prog 57 #[.slice A n c,.func (.func 58) #[] #[]] w (Tells (xs.any g) w):=by
 have HC:=qAZ (qHi A n c xs g w hl h hn2 hG)
 clear hl h hG
 generalize xs.any g=ab at*
 go_enter Tryz.func57,Tryz.ntmps57
 go_wp2_with (first|(go_at_call 89;refine HC.out.mono ?_;rintro e w1 ⟨k,rfl,hk,hb⟩;have HB:=qAZ hb;have HK:=qAZ hk;clear hb hk))
 go_ret
 exact⟨by rw[←HK.out];rfl,HB.out⟩
theorem qGh (A B:Option Addr) (n m c d:Nat) (xs ys:List Typ) (w:World) (hl:xs.length=n) (hm:ys.length=m) (h:Sq typL (·<w.heap.size) w A xs) (h':Sq typL (·<w.heap.size) w B ys) (hn2:n≤9223372036854775807) (hm2:m≤9223372036854775807):
 Calls Tryz.prog 93 #[.slice A n c,.slice B m d] w (Tells (belowT xs ys) w):=by
 have HC:=qAZ (qB3 A B n m c d xs ys w hl hm h h' hn2 hm2)
 clear hl hm h h'
 generalize belowT xs ys=ab at*
 go_enter Tryz.func93,Tryz.ntmps93
 go_wp2_with (first|(go_at_call 121;refine HC.out.mono ?_;rintro e w1 ⟨rfl,hb⟩;have HB:=qAZ hb;clear hb))
 go_ret
 exact⟨rfl,HB.out⟩
def highB (x:Shape):Bool:=decide (8<x.2.length)
theorem qI6 (x:Shape) (w:World) (cs:List Value) (h:shpL.R (·<w.heap.size) w cs x):Calls Tryz.prog 58 #[vAgg cs] w (Tells (highB x) w):=by
 obtain⟨b,s⟩:=x
 obtain⟨v,rfl,A,d,e,-⟩:=h
 simp only[List.cons.injEq,and_true] at e
 subst e
 simp only[vAgg,highB]
 generalize s.length=n
 by_cases h8:8<n
 · have h8i:(8:Int)<(n:Int):=by omega
   rw[decide_eq_true h8]
   clear h8
   go_enter Tryz.func58,Tryz.ntmps58
   go_wp2_with fail
   go_ret
   exact⟨by simp[h8i],qAj _ _⟩
 · have h8i:¬(8:Int)<(n:Int):=by omega
   rw[decide_eq_false h8]
   clear h8
   go_enter Tryz.func58,Tryz.ntmps58
   go_wp2_with fail
   go_ret
   exact⟨by simp[h8i],qAj _ _⟩
def goesB (t:List Typ) (l:List Shape) (k:Int):Bool:=
 match l[k.toNat]? with
 |some (true,u)=>belowT t u
 |_=>false
theorem qHn {t u:List Typ} {l:List Shape} {k:Nat} (h:l[k]? =some (true,u)):goesB t l (k:Int)=belowT t u:=by simp[goesB,h]
theorem qJA {t u:List Typ} {l:List Shape} {k:Nat} (h:l[k]? =some (false,u)):goesB t l (k:Int)=false:=by simp[goesB,h]
theorem okF_no {m:Mod} {fn:Fn} {l:List Shape} {p:Nat} {s:List Typ} (h:l[p]? =some (false,s)):okF m fn l p=true:=by simp[okF,h]
theorem okF_yes {m:Mod} {fn:Fn} {l:List Shape} {p:Nat} {s t:List Typ} {i:Ins} {er:Int} {ks:List Int} (h:l[p]? =some (true,s)) (hi:fn.code[p]? =some i) (hf:insB8 m fn i p s=(er,t,ks)):okF m fn l p=(er==0 && ks.all (goesB t l)):=by
 unfold okF
 rw[h,hi]
 simp only[hf]
 rfl
theorem okF_of {m:Mod} {fn:Fn} {l:List Shape} {p:Nat} (h:okAt m fn (toS l) p):okF m fn l p=true:=by
 unfold okF
 split
 · rename_i s i hs hi
   obtain⟨i',t,ks,h1,h2,h3⟩:=h s (qBk hs)
   rw[hi] at h1
   injection h1 with h1
   subst h1
   rw[h2]
   simp only[Bool.and_eq_true,beq_iff_eq,List.all_eq_true,true_and]
   intro k hk
   obtain⟨u,hu,hb⟩:=h3 k hk t rfl
   rw[qDx hu]
   exact hb
 · rename_i s hs hi
   obtain⟨i',t,ks,h1,-⟩:=h s (qBk hs)
   rw[hi] at h1
   cases h1
 · rfl
theorem not_all {α:Type} (l:List α) (f:α→Bool):(l.any fun k=> !f k)= !l.all f:=by
 induction l with
 |nil=>rfl
 |cons a l ih=>simp only[List.any_cons,List.all_cons,ih,Bool.not_and]
def RRight (x:Mod) (L:List (List Shape)) (w:World) (e:Ending) (w':World):Prop:=
 Below w.heap.size w w'∧∃b:Bool,e= .returned (.bool b)∧(b=true↔mainB x=true∧RightM x L)
theorem qBN {x:Mod} {L:List (List Shape)} {w w':World} (hb:Below w.heap.size w w') (h:mainB x=true→RightM x L→False):RRight x L w (.returned (.bool false)) w':=
 ⟨hb,false,rfl,⟨fun e=>(by cases e),fun h2=>(h h2.1 h2.2).elim⟩⟩
theorem qHg (A:Option Addr) (n c:Nat) (xs:List Int) (g:Int→Bool) (p7 p8:Addr) (w:World) (hl:xs.length=n) (h:∀j x,xs[j]? =some x→∃a,A=some a∧a.block<w.heap.size∧w.cell? (a.add j)=some (.int .i64 x)) (hn2:n≤9223372036854775807)
 (hG:∀(w1:World) (x:Int),Below w.heap.size w w1→x∈xs→Calls Tryz.prog 92 #[.int .i64 x,.pointer (some p7),.pointer (some p8)] w1 (Tells (g x) w1)):
 Calls Tryz.prog 123 #[.slice A n c,.func (.func 92) #[] #[.pointer (some p7),.pointer (some p8)]] w fun e w'=>∃k:Int,e= .returned (.int .i64 k)∧decide (0≤k)=xs.any g∧Below w.heap.size w w':=by
 have HL:=qAZ hl
 have HS:=qAZ h
 have HP0:=qAZ hG
 clear hl h hG
 go_enter Tryz.func123,Tryz.ntmps123
 go_wp2_with fail
 go_loopw [8] (fun i wr=>∃k:Nat,k≤n∧i= .int .i64 (k:Nat)∧(xs.take k).any g=false∧Below w.heap.size w wr) (fun i _=>n-(intOf i).toNat)
 case atStart=>exact⟨0,qAs _,rfl,by simp,qAe _ _⟩
 case round=>
  obtain⟨k,hk,rfl,hall,hbel⟩:=hrel
  have HA:=qAZ hall
  have HB:=qAZ hbel
  have hs:=hbel.size
  clear hall hbel
  by_cases hlt:k<n
  · skip
    obtain⟨x,hx⟩:∃x,xs[k]? =some x:=⟨xs[k]'qd,qAa _⟩
    have hmem:x∈xs:=qAk hx
    obtain⟨a,rfl,hab,hc⟩:=HS.out k x hx
    have HX:=qAZ hx
    clear hx
    have c0:=(HB.out.cell (p:=a.add k) qE).trans hc
    have HP:Hid (∀w1,Below w.heap.size w w1→Calls Tryz.prog 92 #[.int .i64 x,.pointer (some p7),.pointer (some p8)] w1 (Tells (g x) w1)):=fun w1 hb=>HP0.out w1 x hb hmem
    clear hc
    have hk0:0≤(k:Int):=by omega
    cases hg:g x
    · rw[hg] at HP
      have HG:=qAZ hg
      clear hg
      go_wp2_with (first
       |(go_at_call 92
         refine(HP.out _ HB.out).mono ?_
         rintro e w2 ⟨rfl,hb2⟩
         have Hb2:=qAZ (HB.out.trans (hb2.mono hs))
         clear hb2))
      exact qo
    · rw[hg] at HP
      have e:xs.any g=true:=qBx hmem hg
      have E:=qAZ e
      clear e hg
      go_wp2_with (first
       |(go_at_call 92
         refine(HP.out _ HB.out).mono ?_
         rintro e w2 ⟨rfl,hb2⟩
         have Hb2:=qAZ (HB.out.trans (hb2.mono hs))
         clear hb2))
      exact zZ
  · exact ql
theorem qFB (A:Option Addr) (n c:Nat) (xs:List Int) (g:Int→Bool) (p7 p8:Addr) (w:World) (hl:xs.length=n) (h:∀j x,xs[j]? =some x→∃a,A=some a∧a.block<w.heap.size∧w.cell? (a.add j)=some (.int .i64 x)) (hn2:n≤9223372036854775807)
 (hG:∀(w1:World) (x:Int),Below w.heap.size w w1→x∈xs→Calls Tryz.prog 92 #[.int .i64 x,.pointer (some p7),.pointer (some p8)] w1 (Tells (g x) w1)):
 Calls Tryz.prog 94 #[.slice A n c,.func (.func 92) #[] #[.pointer (some p7),.pointer (some p8)]] w (Tells (xs.any g) w):=by
 have HC:=qAZ (qHg A n c xs g p7 p8 w hl h hn2 hG)
 clear hl h hG
 generalize xs.any g=ab at*
 go_enter Tryz.func94,Tryz.ntmps94
 go_wp2_with (first|(go_at_call 123;refine HC.out.mono ?_;rintro e w1 ⟨k,rfl,hk,hb⟩;have HB:=qAZ hb;have HK:=qAZ hk;clear hb hk))
 go_ret
 exact⟨by rw[←HK.out];rfl,HB.out⟩
theorem on_few (A B D:Option Addr) (n m k c d g:Nat) (ins outs ts:List Typ) (w:World) (hn:ins.length=n) (hm:outs.length=m) (hk:ts.length=k) (sn:Sq typL (·<w.heap.size) w A ins) (sm:Sq typL (·<w.heap.size) w B outs) (sk:Sq typL (·<w.heap.size) w D ts)
 (hlt:k<n) (bn:n≤1000) (bm:m≤1000) (bk:k≤1000) (bg:k≤g) (bg2:g≤9223372036854775807) (bd:m≤d) (bd2:d≤9223372036854775807):Calls Tryz.prog 118 #[.agg #[.slice A n c,.slice B m d],.slice D k g] w (Moved (movB ts ins outs) w):=by
 have HN:=qAZ hn
 have HM:=qAZ hm
 have HK:=qAZ hk
 have SN:=qAZ sn
 have SM:=qAZ sm
 have SK:=qAZ sk
 have HB0:Hid (∀o:Obj,Below w.heap.size w (w.alloc o)):=fun o=>qAj w o
 clear hn hm hk sn sm sk
 have e1:(k:Int)-(n:Int)<0:=by omega
 have HV:=qAZ (qCN (outs:=outs) (show ts.length<ins.length by rw[HK.out,HN.out];exact hlt))
 clear hlt
 go_enter Tryz.func118,Tryz.ntmps118
 go_wp2_with fail
 refine qAp fun U hU=> ?_
 have HBU:Hid (Below w.heap.size w U):=by show Below _ _ _;rw[hU];exact HB0.out _
 clear hU
 have HBR:Hid (∀dq osq,Below w.heap.size w (Go.Sort.grow (redrawn U dq) osq)):=fun dq osq=>HBU.out.trans ((below_regrown U dq osq).mono HBU.out.size)
 refine wp_region_quiet_below qV qV ?_
 repeat(quiet_step (fail))
 refine wpQuiet_nil ?_
 intro _ hw'
 obtain⟨⟨dq,osq⟩,hw''⟩:=hw'
 subst hw''
 go_wp2_with fail
 go_ret2
 exact⟨HBR.out dq osq,.inl ⟨HV.out,rfl⟩⟩
theorem on_far (A B:Option Addr) (a:Addr) (n m k c d g:Nat) (ins outs ts:List Typ) (w:World) (hn:ins.length=n) (hm:outs.length=m) (hk:ts.length=k) (sn:Sq typL (·<w.heap.size) w A ins) (sm:Sq typL (·<w.heap.size) w B outs) (sk:Sq typL (·<w.heap.size) w (some a) ts)
 (hlt:¬k<n) (hg:¬g=k-n) (bn:n≤1000) (bm:m≤1000) (bk:k≤1000) (bg:k≤g) (bg2:g≤9223372036854775807) (bd:m≤d) (bd2:d≤9223372036854775807):Calls Tryz.prog 118 #[.agg #[.slice A n c,.slice B m d],.slice (some a) k g] w (Moved (movB ts ins outs) w):=by
 have HN:=qAZ hn
 have HM:=qAZ hm
 have HK:=qAZ hk
 have SN:=qAZ sn
 have SM:=qAZ sm
 have SK:=qAZ sk
 have HB0:Hid (∀o:Obj,Below w.heap.size w (w.alloc o)):=fun o=>qAj w o
 clear hn hm hk sn sm sk
 obtain⟨b,hb⟩:∃b:Nat,k-n=b:=⟨_,rfl⟩
 have HBe:Hid (ts.length-ins.length=b):=by show _=b;rw[HK.out,HN.out];exact hb
 have HLe:Hid (ins.length≤ts.length):=by show _≤_;rw[HK.out,HN.out];omega
 have e1:(k:Int)-(n:Int)=(b:Int):=by omega
 have e2:b≤k:=by omega
 have e3:b≤g:=by omega
 have e4:(b:Int)≤(k:Int):=by omega
 have e5:(b:Int)≤(g:Int):=by omega
 have e6:k-b=n:=by omega
 have e7:(k:Int)≤(g:Int):=by omega
 have e8:decide ((b:Int)<0)=false:=by simp
 have TE:Hid (∀w1 D' c',Below w.heap.size w w1→(b<k→D'=(some a).map (·.add (b*2)))→Calls Tryz.prog 121 #[.slice D' n c',.slice A n c,.func (.func 122) #[] #[]] w1 fun e w'=>e= .returned (.bool (belowT (ts.drop b) ins))∧Below w1.heap.size w1 w'):=fun w1 D' c' hb1 hd=>
  qB3 D' A n n c' c (ts.drop b) ins w1 (by rw[List.length_drop,HK.out];exact e6) HN.out (qG0 ((SK.out.below hb1 (qAf _)).wide fun i hi=>qAg hi hb1.size) D' (by rw[HK.out];exact hd)) ((SN.out.below hb1 (qAf _)).wide fun i hi=>qAg hi hb1.size) (by omega) (by omega)
 have TC:Hid (∀w1 G,Below w.heap.size w w1→Blk w1 G 56 #[.slice (some a) b g,.slice B m d]→Calls Tryz.prog 68 #[.slice (some ⟨G,0,none⟩) 2 2] w1 fun e w'=>∃v,e= .returned v∧w'.ownsRow w1.heap.size 58 2 v (ts.take b++outs).length (T2 (ts.take b++outs))∧Below w1.heap.size w1 w'):=fun w1 G hb1 hblk=>by
  have lb:(ts.take b).length=b:=by rw[List.length_take,HK.out];omega
  have r0:tysL.R (·<w1.heap.size) w1 [.slice (some a) b g] (ts.take b):=⟨some a,g,by rw[lb],by omega,by unfold maxLen;omega,((SK.out.below hb1 (qAf _)).wide fun i hi=>qAg hi hb1.size).take b⟩
  have r1:tysL.R (·<w1.heap.size) w1 [.slice B m d] outs:=⟨B,d,by rw[HM.out],by rw[HM.out];exact bd,by unfold maxLen;omega,(SM.out.below hb1 (qAf _)).wide fun i hi=>qAg hi hb1.size⟩
  obtain⟨A9,c9,e9,-,-,hsq⟩:=qDw (L:=tysL) hblk hblk.lt rfl r0 r1
  simp only[List.cons.injEq,Value.slice.injEq,and_true] at e9
  obtain⟨rfl,-,-⟩:=e9
  have:=qCa (some ⟨G,0,none⟩) 2 2 [ts.take b,outs] w1 rfl hsq (by simp only[List.flatten_cons,List.flatten_nil,List.append_nil,List.length_append,lb,HM.out];omega) (by omega)
  simpa using this
 have HC:Hid (∀w1,Below (w.heap.size+1) (w.alloc (.cells #[.slice A n c,.slice B m d] 161)) w1→w1.cell? ⟨w.heap.size,0,none⟩=some (.slice A n c)∧w1.cell? ⟨w.heap.size,1,none⟩=some (.slice B m d)):=fun w1 hb1=>⟨(hb1.cell (p:=⟨w.heap.size,0,none⟩) (by simp)).trans jw,(hb1.cell (p:=⟨w.heap.size,1,none⟩) (by simp)).trans jw⟩
 have HV0:Hid (belowT (ts.drop b) ins=false→movB ts ins outs=none):=fun h=>qCm HBe.out h
 have HV1:Hid (8<b+m→movB ts ins outs=none):=fun h=>qCx HBe.out (by rw[HM.out];exact h)
 have HV2:Hid (belowT (ts.drop b) ins=true→b+m≤8→movB ts ins outs=some (ts.take b++outs)):=fun h1 h2=>qCl HBe.out HLe.out h1 (by rw[HM.out];exact h2)
 rw[hb] at hg
 clear hlt hb
 have TE2:Hid (∀w1 c',Below w.heap.size w w1→Calls Tryz.prog 121 #[.slice (some (a.add (b*2))) n c',.slice A n c,.func (.func 122) #[] #[]] w1 fun e w'=>e= .returned (.bool (belowT (ts.drop b) ins))∧Below w1.heap.size w1 w'):=fun w1 c' hb1=>TE.out w1 _ c' hb1 (fun h=>rfl)
 clear TE
 cases hbt:belowT (ts.drop b) ins
 case' true=>by_cases h8:8<b+m
 all_goals
  rw[hbt] at TE2
  have HBT:=qAZ hbt
  clear hbt
  have hw1:IntKind.i64.wrap ((b:Int)+(m:Int))=(b:Int)+(m:Int):=by rw[qAv];omega
  try(have h8i:decide ((8:Int)<(b:Int)+(m:Int))=decide (8<b+m):=by rw[decide_eq_decide];omega)
  try rw[decide_eq_true h8] at h8i
  try rw[decide_eq_false h8] at h8i
  go_enter Tryz.func118,Tryz.ntmps118
  go_wp2_with fail
  refine qAp fun U hU=> ?_
  have HBU:Hid (Below w.heap.size w U):=by show Below _ _ _;rw[hU];exact HB0.out _
  have HCU:Hid (U.cell? ⟨w.heap.size,0,none⟩=some (.slice A n c)∧U.cell? ⟨w.heap.size,1,none⟩=some (.slice B m d)):=by show _∧_;rw[hU];exact HC.out _ (qAe _ _)
  have hsU:w.heap.size<U.heap.size:=by rw[hU];simp
  clear hU
  have HBR:Hid (∀dq osq,Below w.heap.size w (Go.Sort.grow (redrawn U dq) osq)):=fun dq osq=>HBU.out.trans ((below_regrown U dq osq).mono HBU.out.size)
  have x0:=cell_regrown HCU.out.1
  have x1:=cell_regrown HCU.out.2
  refine wp_region_quiet_below qV qV ?_
  repeat(quiet_step (first|with_reducible exact Calls.regrown_of (TE2.out _ _ (HBR.out _ _))))
  refine wpQuiet_nil ?_
  intro _ hw'
  obtain⟨⟨dq,osq⟩,hw''⟩:=hw'
  subst hw''
  have HB1:=qAZ (HBR.out dq osq)
  have HS1:Hid (w.heap.size<(Go.Sort.grow (redrawn U dq) osq).heap.size):=qAg hsU (below_regrown U dq osq).size
  go_wp2_with fail
  first
  |(go_ret2
    exact⟨HB1.out,.inl ⟨by first|exact HV0.out HBT.out|exact HV1.out h8,rfl⟩⟩)
  |skip
 all_goals
  refine qAp fun V hV=> ?_
  have HBV:Hid (Below w.heap.size w V):=by show Below _ _ _;rw[hV];exact HB1.out
  have HCV:Hid (V.cell? ⟨w.heap.size,1,none⟩=some (.slice B m d)):=by show _=_;rw[hV];exact x1 dq osq
  have hsV:w.heap.size<V.heap.size:=by rw[hV];exact HS1.out
  have HVX:=qAZ (HV2.out HBT.out (by omega))
  clear hV x0 x1
  go_region_held3 (fun w'=>w'.cell? ⟨w.heap.size,1,none⟩=some (.slice B m d))
   (first|exact HCV.out|exact SS4.out|exact(((qAj V _).cell (p:=⟨w.heap.size,1,none⟩) hsV).trans HCV.out)|exact(((qAj V _).drew.cell (p:=⟨w.heap.size,1,none⟩) hsV).trans HCV.out))
   (first
   |(go_at_call 68
     refine(TC.out _ V.heap.size ((HBV.out.alloc HBV.out.size _).drew) (qAz V _ _)).mono ?_
     rintro e w4 ⟨v4,rfl,hown4,hb4⟩
     have HO4:=qAZ hown4
     have HB4:Hid (Below V.heap.size V w4):=zv
     have SS4:=qAZ ((HB4.out.cell (p:=⟨w.heap.size,1,none⟩) hsV).trans HCV.out)
     clear hown4 hb4))
  go_wp2_with fail
  go_ret2
  refine⟨HBV.out.trans (HB4.out.mono HBV.out.size),.inr ⟨_,v4,HVX.out,rfl,?_⟩⟩
  refine⟨HO4.out.1,?_⟩
  rcases HO4.out.2 with h|⟨g',cap,cur,e,hb2,rest⟩
  · exact .inl h
  · exact j8
theorem on_full (A B:Option Addr) (a:Addr) (n m k c d g:Nat) (ins outs ts:List Typ) (w:World) (hn:ins.length=n) (hm:outs.length=m) (hk:ts.length=k) (sn:Sq typL (·<w.heap.size) w A ins) (sm:Sq typL (·<w.heap.size) w B outs) (sk:Sq typL (·<w.heap.size) w (some a) ts)
 (hlt:¬k<n) (hg:g=k-n) (bn:n≤1000) (bm:m≤1000) (bk:k≤1000) (bg:k≤g) (bg2:g≤9223372036854775807) (bd:m≤d) (bd2:d≤9223372036854775807):Calls Tryz.prog 118 #[.agg #[.slice A n c,.slice B m d],.slice (some a) k g] w (Moved (movB ts ins outs) w):=by
 have HN:=qAZ hn
 have HM:=qAZ hm
 have HK:=qAZ hk
 have SN:=qAZ sn
 have SM:=qAZ sm
 have SK:=qAZ sk
 have HB0:Hid (∀o:Obj,Below w.heap.size w (w.alloc o)):=fun o=>qAj w o
 clear hn hm hk sn sm sk
 obtain⟨b,hb⟩:∃b:Nat,k-n=b:=⟨_,rfl⟩
 have HBe:Hid (ts.length-ins.length=b):=by show _=b;rw[HK.out,HN.out];exact hb
 have HLe:Hid (ins.length≤ts.length):=by show _≤_;rw[HK.out,HN.out];omega
 have e1:(k:Int)-(n:Int)=(b:Int):=by omega
 have e2:b≤k:=by omega
 have e3:b≤g:=by omega
 have e4:(b:Int)≤(k:Int):=by omega
 have e5:(b:Int)≤(g:Int):=by omega
 have e6:k-b=n:=by omega
 have e7:(k:Int)≤(g:Int):=by omega
 have e8:decide ((b:Int)<0)=false:=by simp
 have TE:Hid (∀w1 D' c',Below w.heap.size w w1→(b<k→D'=(some a).map (·.add (b*2)))→Calls Tryz.prog 121 #[.slice D' n c',.slice A n c,.func (.func 122) #[] #[]] w1 fun e w'=>e= .returned (.bool (belowT (ts.drop b) ins))∧Below w1.heap.size w1 w'):=fun w1 D' c' hb1 hd=>
  qB3 D' A n n c' c (ts.drop b) ins w1 (by rw[List.length_drop,HK.out];exact e6) HN.out (qG0 ((SK.out.below hb1 (qAf _)).wide fun i hi=>qAg hi hb1.size) D' (by rw[HK.out];exact hd)) ((SN.out.below hb1 (qAf _)).wide fun i hi=>qAg hi hb1.size) (by omega) (by omega)
 have TC:Hid (∀w1 G,Below w.heap.size w w1→Blk w1 G 56 #[.slice (some a) b g,.slice B m d]→Calls Tryz.prog 68 #[.slice (some ⟨G,0,none⟩) 2 2] w1 fun e w'=>∃v,e= .returned v∧w'.ownsRow w1.heap.size 58 2 v (ts.take b++outs).length (T2 (ts.take b++outs))∧Below w1.heap.size w1 w'):=fun w1 G hb1 hblk=>by
  have lb:(ts.take b).length=b:=by rw[List.length_take,HK.out];omega
  have r0:tysL.R (·<w1.heap.size) w1 [.slice (some a) b g] (ts.take b):=⟨some a,g,by rw[lb],by omega,by unfold maxLen;omega,((SK.out.below hb1 (qAf _)).wide fun i hi=>qAg hi hb1.size).take b⟩
  have r1:tysL.R (·<w1.heap.size) w1 [.slice B m d] outs:=⟨B,d,by rw[HM.out],by rw[HM.out];exact bd,by unfold maxLen;omega,(SM.out.below hb1 (qAf _)).wide fun i hi=>qAg hi hb1.size⟩
  obtain⟨A9,c9,e9,-,-,hsq⟩:=qDw (L:=tysL) hblk hblk.lt rfl r0 r1
  simp only[List.cons.injEq,Value.slice.injEq,and_true] at e9
  obtain⟨rfl,-,-⟩:=e9
  have:=qCa (some ⟨G,0,none⟩) 2 2 [ts.take b,outs] w1 rfl hsq (by simp only[List.flatten_cons,List.flatten_nil,List.append_nil,List.length_append,lb,HM.out];omega) (by omega)
  simpa using this
 have HC:Hid (∀w1,Below (w.heap.size+1) (w.alloc (.cells #[.slice A n c,.slice B m d] 161)) w1→w1.cell? ⟨w.heap.size,0,none⟩=some (.slice A n c)∧w1.cell? ⟨w.heap.size,1,none⟩=some (.slice B m d)):=fun w1 hb1=>⟨(hb1.cell (p:=⟨w.heap.size,0,none⟩) (by simp)).trans jw,(hb1.cell (p:=⟨w.heap.size,1,none⟩) (by simp)).trans jw⟩
 have HV0:Hid (belowT (ts.drop b) ins=false→movB ts ins outs=none):=fun h=>qCm HBe.out h
 have HV1:Hid (8<b+m→movB ts ins outs=none):=fun h=>qCx HBe.out (by rw[HM.out];exact h)
 have HV2:Hid (belowT (ts.drop b) ins=true→b+m≤8→movB ts ins outs=some (ts.take b++outs)):=fun h1 h2=>qCl HBe.out HLe.out h1 (by rw[HM.out];exact h2)
 rw[hb] at hg
 clear hlt hb
 have hg2:=hg.symm
 clear hg
 subst hg2
 have TE2:Hid (∀w1 c',Below w.heap.size w w1→Calls Tryz.prog 121 #[.slice (some a) n c',.slice A n c,.func (.func 122) #[] #[]] w1 fun e w'=>e= .returned (.bool (belowT (ts.drop b) ins))∧Below w1.heap.size w1 w'):=fun w1 c' hb1=>TE.out w1 _ c' hb1 (fun h=>by omega)
 clear TE
 cases hbt:belowT (ts.drop b) ins
 case' true=>by_cases h8:8<b+m
 all_goals
  rw[hbt] at TE2
  have HBT:=qAZ hbt
  clear hbt
  have hw1:IntKind.i64.wrap ((b:Int)+(m:Int))=(b:Int)+(m:Int):=by rw[qAv];omega
  try(have h8i:decide ((8:Int)<(b:Int)+(m:Int))=decide (8<b+m):=by rw[decide_eq_decide];omega)
  try rw[decide_eq_true h8] at h8i
  try rw[decide_eq_false h8] at h8i
  go_enter Tryz.func118,Tryz.ntmps118
  go_wp2_with fail
  refine qAp fun U hU=> ?_
  have HBU:Hid (Below w.heap.size w U):=by show Below _ _ _;rw[hU];exact HB0.out _
  have HCU:Hid (U.cell? ⟨w.heap.size,0,none⟩=some (.slice A n c)∧U.cell? ⟨w.heap.size,1,none⟩=some (.slice B m d)):=by show _∧_;rw[hU];exact HC.out _ (qAe _ _)
  have hsU:w.heap.size<U.heap.size:=by rw[hU];simp
  clear hU
  have HBR:Hid (∀dq osq,Below w.heap.size w (Go.Sort.grow (redrawn U dq) osq)):=fun dq osq=>HBU.out.trans ((below_regrown U dq osq).mono HBU.out.size)
  have x0:=cell_regrown HCU.out.1
  have x1:=cell_regrown HCU.out.2
  refine wp_region_quiet_below qV qV ?_
  repeat(quiet_step (first|with_reducible exact Calls.regrown_of (TE2.out _ _ (HBR.out _ _))))
  refine wpQuiet_nil ?_
  intro _ hw'
  obtain⟨⟨dq,osq⟩,hw''⟩:=hw'
  subst hw''
  have HB1:=qAZ (HBR.out dq osq)
  have HS1:Hid (w.heap.size<(Go.Sort.grow (redrawn U dq) osq).heap.size):=qAg hsU (below_regrown U dq osq).size
  go_wp2_with fail
  first
  |(go_ret2
    exact⟨HB1.out,.inl ⟨by first|exact HV0.out HBT.out|exact HV1.out h8,rfl⟩⟩)
  |skip
 all_goals
  refine qAp fun V hV=> ?_
  have HBV:Hid (Below w.heap.size w V):=by show Below _ _ _;rw[hV];exact HB1.out
  have HCV:Hid (V.cell? ⟨w.heap.size,1,none⟩=some (.slice B m d)):=by show _=_;rw[hV];exact x1 dq osq
  have hsV:w.heap.size<V.heap.size:=by rw[hV];exact HS1.out
  have HVX:=qAZ (HV2.out HBT.out (by omega))
  clear hV x0 x1
  go_region_held3 (fun w'=>w'.cell? ⟨w.heap.size,1,none⟩=some (.slice B m d))
   (first|exact HCV.out|exact SS4.out|exact(((qAj V _).cell (p:=⟨w.heap.size,1,none⟩) hsV).trans HCV.out)|exact(((qAj V _).drew.cell (p:=⟨w.heap.size,1,none⟩) hsV).trans HCV.out))
   (first
   |(go_at_call 68
     refine(TC.out _ V.heap.size ((HBV.out.alloc HBV.out.size _).drew) (qAz V _ _)).mono ?_
     rintro e w4 ⟨v4,rfl,hown4,hb4⟩
     have HO4:=qAZ hown4
     have HB4:Hid (Below V.heap.size V w4):=zv
     have SS4:=qAZ ((HB4.out.cell (p:=⟨w.heap.size,1,none⟩) hsV).trans HCV.out)
     clear hown4 hb4))
  go_wp2_with fail
  go_ret2
  refine⟨HBV.out.trans (HB4.out.mono HBV.out.size),.inr ⟨_,v4,HVX.out,rfl,?_⟩⟩
  refine⟨HO4.out.1,?_⟩
  rcases HO4.out.2 with h|⟨g',cap,cur,e,hb2,rest⟩
  · exact .inl h
  · exact j8
theorem on_none (A B:Option Addr) (m c d:Nat) (ins outs ts:List Typ) (w:World) (hn:ins.length=0) (hm:outs.length=m) (hk:ts.length=0) (sn:Sq typL (·<w.heap.size) w A ins) (sm:Sq typL (·<w.heap.size) w B outs) (sk:Sq typL (·<w.heap.size) w none ts)
 (bm:m≤1000) (bd:m≤d) (bd2:d≤9223372036854775807):Calls Tryz.prog 118 #[.agg #[.slice A 0 c,.slice B m d],.slice none 0 0] w (Moved (movB ts ins outs) w):=by
 obtain rfl:ins=[]:=qA1 hn
 obtain rfl:ts=[]:=qA1 hk
 have HM:=qAZ hm
 have SM:=qAZ sm
 have HB0:Hid (∀o:Obj,Below w.heap.size w (w.alloc o)):=fun o=>qAj w o
 clear hn hm hk sn sm sk
 have TE2:Hid (∀w1 c',Below w.heap.size w w1→Calls Tryz.prog 121 #[.slice none 0 c',.slice A 0 c,.func (.func 122) #[] #[]] w1 fun e w'=>e= .returned (.bool true)∧Below w1.heap.size w1 w'):=fun w1 c' hb1=>
  qB3 none A 0 0 c' c [] [] w1 rfl rfl (Sq.nil _ _ _ _) (Sq.nil _ _ _ _) (by omega) (by omega)
 have TC:Hid (∀w1 G,Below w.heap.size w w1→Blk w1 G 56 #[.slice none 0 0,.slice B m d]→Calls Tryz.prog 68 #[.slice (some ⟨G,0,none⟩) 2 2] w1 fun e w'=>∃v,e= .returned v∧w'.ownsRow w1.heap.size 58 2 v outs.length (T2 outs)∧Below w1.heap.size w1 w'):=fun w1 G hb1 hblk=>by
  have r0:tysL.R (·<w1.heap.size) w1 [.slice none 0 0] []:=qBZ _ _ _
  have r1:tysL.R (·<w1.heap.size) w1 [.slice B m d] outs:=⟨B,d,by rw[HM.out],by rw[HM.out];exact bd,by unfold maxLen;omega,(SM.out.below hb1 (qAf _)).wide fun i hi=>qAg hi hb1.size⟩
  obtain⟨A9,c9,e9,-,-,hsq⟩:=qDw (L:=tysL) hblk hblk.lt rfl r0 r1
  simp only[List.cons.injEq,Value.slice.injEq,and_true] at e9
  obtain⟨rfl,-,-⟩:=e9
  have:=qCa (some ⟨G,0,none⟩) 2 2 [[],outs] w1 rfl hsq (by simp only[List.flatten_cons,List.flatten_nil,List.append_nil,List.nil_append,HM.out];omega) (by omega)
  simpa using this
 have HC:Hid (∀w1,Below (w.heap.size+1) (w.alloc (.cells #[.slice A 0 c,.slice B m d] 161)) w1→w1.cell? ⟨w.heap.size,0,none⟩=some (.slice A 0 c)∧w1.cell? ⟨w.heap.size,1,none⟩=some (.slice B m d)):=fun w1 hb1=>⟨(hb1.cell (p:=⟨w.heap.size,0,none⟩) (by simp)).trans jw,(hb1.cell (p:=⟨w.heap.size,1,none⟩) (by simp)).trans jw⟩
 have HV1:Hid (8<m→movB [] [] outs=none):=fun h=>qCx (b:=0) rfl (by rw[HM.out];omega)
 have HV2:Hid (m≤8→movB [] [] outs=some outs):=fun h2=>qCl (s:=[]) (b:=0) rfl (qAf _) rfl (by rw[HM.out];omega)
 by_cases h8:8<m
 all_goals
  have hw1:IntKind.i64.wrap (m:Int)=(m:Int):=by rw[qAv];omega
  have h8i:decide ((8:Int)<(m:Int))=decide (8<m):=by rw[decide_eq_decide];omega
  try rw[decide_eq_true h8] at h8i
  try rw[decide_eq_false h8] at h8i
  go_enter Tryz.func118,Tryz.ntmps118
  go_wp2_with fail
  refine qAp fun U hU=> ?_
  have HBU:Hid (Below w.heap.size w U):=by show Below _ _ _;rw[hU];exact HB0.out _
  have HCU:Hid (U.cell? ⟨w.heap.size,0,none⟩=some (.slice A 0 c)∧U.cell? ⟨w.heap.size,1,none⟩=some (.slice B m d)):=by show _∧_;rw[hU];exact HC.out _ (qAe _ _)
  have hsU:w.heap.size<U.heap.size:=by rw[hU];simp
  clear hU
  have HBR:Hid (∀dq osq,Below w.heap.size w (Go.Sort.grow (redrawn U dq) osq)):=fun dq osq=>HBU.out.trans ((below_regrown U dq osq).mono HBU.out.size)
  have x0:=cell_regrown HCU.out.1
  have x1:=cell_regrown HCU.out.2
  refine wp_region_quiet_below qV qV ?_
  repeat(quiet_step (first|with_reducible exact Calls.regrown_of (TE2.out _ _ (HBR.out _ _))))
  refine wpQuiet_nil ?_
  intro _ hw'
  obtain⟨⟨dq,osq⟩,hw''⟩:=hw'
  subst hw''
  have HB1:=qAZ (HBR.out dq osq)
  have HS1:Hid (w.heap.size<(Go.Sort.grow (redrawn U dq) osq).heap.size):=qAg hsU (below_regrown U dq osq).size
  go_wp2_with fail
  first
  |(go_ret2
    exact⟨HB1.out,.inl ⟨by first|exact HV1.out h8,rfl⟩⟩)
  |skip
 all_goals
  refine qAp fun V hV=> ?_
  have HBV:Hid (Below w.heap.size w V):=by show Below _ _ _;rw[hV];exact HB1.out
  have HCV:Hid (V.cell? ⟨w.heap.size,1,none⟩=some (.slice B m d)):=by show _=_;rw[hV];exact x1 dq osq
  have hsV:w.heap.size<V.heap.size:=by rw[hV];exact HS1.out
  have HVX:=qAZ (HV2.out (by omega))
  clear hV x0 x1
  go_region_held3 (fun w'=>w'.cell? ⟨w.heap.size,1,none⟩=some (.slice B m d))
   (first|exact HCV.out|exact SS4.out|exact(((qAj V _).cell (p:=⟨w.heap.size,1,none⟩) hsV).trans HCV.out)|exact(((qAj V _).drew.cell (p:=⟨w.heap.size,1,none⟩) hsV).trans HCV.out))
   (first
   |(go_at_call 68
     refine(TC.out _ V.heap.size ((HBV.out.alloc HBV.out.size _).drew) (qAz V _ _)).mono ?_
     rintro e w4 ⟨v4,rfl,hown4,hb4⟩
     have HO4:=qAZ hown4
     have HB4:Hid (Below V.heap.size V w4):=zv
     have SS4:=qAZ ((HB4.out.cell (p:=⟨w.heap.size,1,none⟩) hsV).trans HCV.out)
     clear hown4 hb4))
  go_wp2_with fail
  go_ret2
  refine⟨HBV.out.trans (HB4.out.mono HBV.out.size),.inr ⟨_,v4,HVX.out,rfl,?_⟩⟩
  refine⟨HO4.out.1,?_⟩
  rcases HO4.out.2 with h|⟨g',cap,cur,e,hb2,rest⟩
  · exact .inl h
  · exact j8
theorem on_any (A B D:Option Addr) (n m k c d g:Nat) (ins outs ts:List Typ) (w:World) (hn:ins.length=n) (hm:outs.length=m) (hk:ts.length=k) (sn:Sq typL (·<w.heap.size) w A ins) (sm:Sq typL (·<w.heap.size) w B outs) (sk:Sq typL (·<w.heap.size) w D ts)
 (bn:n≤1000) (bm:m≤1000) (bk:k≤1000) (bg:k≤g) (bg2:g≤9223372036854775807) (bd:m≤d) (bd2:d≤9223372036854775807) (hnil:D=none→g=0):Calls Tryz.prog 118 #[.agg #[.slice A n c,.slice B m d],.slice D k g] w (Moved (movB ts ins outs) w):=by
 by_cases hlt:k<n
 · exact on_few A B D n m k c d g ins outs ts w hn hm hk sn sm sk hlt bn bm bk bg bg2 bd bd2
 · cases D with
   |none=>
    obtain rfl:=hnil rfl
    obtain rfl:k=0:=by omega
    obtain rfl:n=0:=by omega
    exact on_none A B m c d ins outs ts w hn hm hk sn sm sk bm bd bd2
   |some a=>
    by_cases hg:g=k-n
    · exact on_full A B a n m k c d g ins outs ts w hn hm hk sn sm sk hlt hg bn bm bk bg bg2 bd bd2
    · exact on_far A B a n m k c d g ins outs ts w hn hm hk sn sm sk hlt hg bn bm bk bg bg2 bd bd2
def Flows (r:Int×List Typ×List Int) (w:World) (e:Ending) (w':World):Prop:=
 Below w.heap.size w w'∧∃v u,e= .returned (.tuple #[v,u,.int .i64 r.1])∧w'.ownsRow w.heap.size 58 2 v r.2.1.length (T2 r.2.1)∧w'.ownsRow w.heap.size 3 1 u r.2.2.length (Is r.2.2)∧(∀b,v.ownBlock=some b→u.ownBlock≠some b)∧A64 r.2.1
theorem qFT {w:World} {b b' ty k n:Nat} {v:Value} {xs:List Value} (h:w.ownsRow b ty k v n xs) (hb:b'≤b):w.ownsRow b' ty k v n xs:=by
 refine⟨h.1,?_⟩
 rcases h.2 with h|⟨g',cap,cur,e,hb2,rest⟩
 · exact .inl h
 · exact .inr ⟨g',cap,cur,e,qBA hb hb2,rest⟩
theorem qEB {er:Int} {t:List Typ} {l:List Int} {w w':World} {e:Ending} (h:Flows (er,t,l) w e w'):Below w.heap.size w w'∧∃v u,e= .returned (.tuple #[v,u,.int .i64 er])∧w'.ownsRow w.heap.size 58 2 v t.length (T2 t)∧w'.ownsRow w.heap.size 3 1 u l.length (Is l)∧A64 t:=by
 obtain⟨h1,v,u,h2,h3,h4,-,h5⟩:=h
 exact⟨h1,v,u,h2,h3,h4,h5⟩
theorem qCC {er:Int} {w w':World} (h:Below w.heap.size w w'):Flows (er,[],[]) w (.returned (.tuple #[.slice none 0 0,.slice none 0 0,.int .i64 er])) w':=
 ⟨h,_,_,rfl,⟨rfl,.inl ⟨rfl,rfl⟩⟩,⟨rfl,.inl ⟨rfl,rfl⟩⟩,(fun b hb=>by cases hb),A64.nil⟩
theorem qHs {x:Mod} {fi pc:Int} {ts:List Typ} (h:checkN x≠0):flowB x fi pc ts=(1,[],[]):=by simp[flowB,h]
theorem qGl {x:Mod} {fi pc:Int} {ts:List Typ} (h:hasB x.funcs.length fi=false):flowB x fi pc ts=(1,[],[]):=by
 simp[hasB] at h
 unfold flowB
 split
 · rfl
 · rename_i hc
   rw[List.getElem?_eq_none (by omega)]
theorem qGk {x:Mod} {pc:Int} {j:Nat} {fn:Fn} {ts:List Typ} (hf:x.funcs[j]? =some fn) (h:hasB fn.code.length pc=false):flowB x (j:Int) pc ts=(1,[],[]):=by
 simp[hasB] at h
 unfold flowB
 split
 · rfl
 · rename_i hc
   simp only[Int.toNat_natCast,hf]
   rw[List.getElem?_eq_none (by omega)]
theorem qF1 {x:Mod} {j p:Nat} {fn:Fn} {i:Ins} {ts:List Typ} (hc:checkN x=0) (hf:x.funcs[j]? =some fn) (hp:fn.code[p]? =some i):flowB x (j:Int) (p:Int) ts=insB8 x fn i p ts:=by
 simp[flowB,hc,hf,hp]
 omega
theorem qJC (cs:List Value) (x:Mod) (fi pc:Int) (D:Option Addr) (k g:Nat) (ts:List Typ) (w:World) (h:modL.R (·<w.heap.size) w cs x) (hc:checkN x≠0):Calls Tryz.prog 91 #[vAgg cs,.int .i64 fi,.int .i64 pc,.slice D k g] w (Flows (flowB x fi pc ts) w):=by
 have TE:Hid (∀w1,Below w.heap.size w w1→Calls Tryz.prog 49 #[vAgg cs] w1 (Errs (checkN x) w1)):=fun w1 hb=>qCR cs x w1 (qBQ h hb)
 obtain⟨_,_,_,_,_,rfl,⟨A0,d0,e0,l0,m0,s0⟩,⟨A1,d1,e1,l1,m1,s1⟩,⟨A2,d2,e2,l2,m2,s2⟩,⟨A3,d3,e3,-⟩,⟨A4,d4,e4,-⟩⟩:=h
 simp only[List.cons.injEq,and_true] at e0 e1 e2 e3 e4
 subst e0 e1 e2 e3 e4
 obtain⟨n0,h0⟩:∃n,x.recs.length=n:=⟨_,rfl⟩
 obtain⟨n1,h1⟩:∃n,x.funcs.length=n:=⟨_,rfl⟩
 obtain⟨n2,h2⟩:∃n,x.imps.length=n:=⟨_,rfl⟩
 rw[h0,h1,h2] at TE⊢
 generalize x.ints.length=n3 at*
 generalize x.texts.length=n4 at*
 have TE2:Hid (∀w1,Below w.heap.size w w1→Calls Tryz.prog 49 #[.agg #[.slice A0 n0 d0,.slice A1 n1 d1,.slice A2 n2 d2,.slice A3 n3 d3,.slice A4 n4 d4]] w1 (Errs (checkN x) w1)):=TE.out
 clear TE
 show Calls Tryz.prog 91 #[.agg #[.slice A0 n0 d0,.slice A1 n1 d1,.slice A2 n2 d2,.slice A3 n3 d3,.slice A4 n4 d4],.int .i64 fi,.int .i64 pc,.slice D k g] w (Flows (flowB x fi pc ts) w)
 have HB0:Hid (∀o:Obj,Below w.heap.size w (w.alloc o)):=fun o=>qAj w o
 have HC0:Hid (C5 w.heap.size (.slice A0 n0 d0) (.slice A1 n1 d1) (.slice A2 n2 d2) (.slice A3 n3 d3) (.slice A4 n4 d4) (w.alloc (.cells #[.slice A0 n0 d0,.slice A1 n1 d1,.slice A2 n2 d2,.slice A3 n3 d3,.slice A4 n4 d4] 28))):=by show C5 _ _ _ _ _ _ _;simp[C5,go_sem]
 rw[qHs hc]
 have b:(checkN x != 0)=true:=by simpa using hc
 generalize checkN x=cn at*
 clear hc s0 s1 s2 h0 h1 h2 l0 l1 l2 m0 m1 m2
 go_enter Tryz.func91,Tryz.ntmps91
 go_wp2_with (first
  |(go_at_call 49
    refine(TE2.out _ (HB0.out _)).mono ?_
    rintro e w1 ⟨rfl,hb1⟩
    have HB1:=qAZ ((HB0.out _).trans (hb1.mono (by simp)))
    obtain⟨x0,x1,x2,x3,x4⟩:=HC0.out.below hb1 (by simp)
    have hs1:w.heap.size<w1.heap.size:=zU
    clear hb1))
 go_ret3
 exact qCC HB1.out
theorem qHr (cs:List Value) (x:Mod) (fi pc:Int) (D:Option Addr) (k g:Nat) (ts:List Typ) (w:World) (h:modL.R (·<w.heap.size) w cs x) (hc:checkN x=0) (hf:hasB x.funcs.length fi=false):Calls Tryz.prog 91 #[vAgg cs,.int .i64 fi,.int .i64 pc,.slice D k g] w (Flows (flowB x fi pc ts) w):=by
 have TE:Hid (∀w1,Below w.heap.size w w1→Calls Tryz.prog 49 #[vAgg cs] w1 (Errs (checkN x) w1)):=fun w1 hb=>qCR cs x w1 (qBQ h hb)
 obtain⟨_,_,_,_,_,rfl,⟨A0,d0,e0,l0,m0,s0⟩,⟨A1,d1,e1,l1,m1,s1⟩,⟨A2,d2,e2,l2,m2,s2⟩,⟨A3,d3,e3,-⟩,⟨A4,d4,e4,-⟩⟩:=h
 simp only[List.cons.injEq,and_true] at e0 e1 e2 e3 e4
 subst e0 e1 e2 e3 e4
 obtain⟨n0,h0⟩:∃n,x.recs.length=n:=⟨_,rfl⟩
 obtain⟨n1,h1⟩:∃n,x.funcs.length=n:=⟨_,rfl⟩
 obtain⟨n2,h2⟩:∃n,x.imps.length=n:=⟨_,rfl⟩
 rw[h0,h1,h2] at TE⊢
 generalize x.ints.length=n3 at*
 generalize x.texts.length=n4 at*
 have TE2:Hid (∀w1,Below w.heap.size w w1→Calls Tryz.prog 49 #[.agg #[.slice A0 n0 d0,.slice A1 n1 d1,.slice A2 n2 d2,.slice A3 n3 d3,.slice A4 n4 d4]] w1 (Errs (checkN x) w1)):=TE.out
 clear TE
 show Calls Tryz.prog 91 #[.agg #[.slice A0 n0 d0,.slice A1 n1 d1,.slice A2 n2 d2,.slice A3 n3 d3,.slice A4 n4 d4],.int .i64 fi,.int .i64 pc,.slice D k g] w (Flows (flowB x fi pc ts) w)
 have HB0:Hid (∀o:Obj,Below w.heap.size w (w.alloc o)):=fun o=>qAj w o
 have HC0:Hid (C5 w.heap.size (.slice A0 n0 d0) (.slice A1 n1 d1) (.slice A2 n2 d2) (.slice A3 n3 d3) (.slice A4 n4 d4) (w.alloc (.cells #[.slice A0 n0 d0,.slice A1 n1 d1,.slice A2 n2 d2,.slice A3 n3 d3,.slice A4 n4 d4] 28))):=by show C5 _ _ _ _ _ _ _;simp[C5,go_sem]
 rw[qGl hf]
 rw[hc] at TE2
 have HF:=qAZ (fun v=>qD7 A1 n1 d1 fi v)
 rw[h1] at hf
 rw[hf] at HF
 clear hc hf s0 s1 s2 h0 h1 h2 l0 l1 l2 m0 m1 m2
 go_enter Tryz.func91,Tryz.ntmps91
 go_wp2_with (first
  |(go_at_call 49
    refine(TE2.out _ (HB0.out _)).mono ?_
    rintro e w1 ⟨rfl,hb1⟩
    have HB1:=qAZ ((HB0.out _).trans (hb1.mono (by simp)))
    obtain⟨x0,x1,x2,x3,x4⟩:=HC0.out.below hb1 (by simp)
    have hs1:w.heap.size<w1.heap.size:=zU
    clear hb1)
  |(go_at_call 115
    refine(HF.out _).mono ?_
    rintro e w2 ⟨rfl,rfl⟩))
 go_ret3
 exact qCC HB1.out
theorem qHq (cs:List Value) (x:Mod) (j:Nat) (pc:Int) (D:Option Addr) (k g:Nat) (ts:List Typ) (w:World) (h:modL.R (·<w.heap.size) w cs x) (fn:Fn) (hc:checkN x=0) (hfn:x.funcs[j]? =some fn) (hp:hasB fn.code.length pc=false):Calls Tryz.prog 91 #[vAgg cs,.int .i64 (j:Int),.int .i64 pc,.slice D k g] w (Flows (flowB x (j:Int) pc ts) w):=by
 have TE:Hid (∀w1,Below w.heap.size w w1→Calls Tryz.prog 49 #[vAgg cs] w1 (Errs (checkN x) w1)):=fun w1 hb=>qCR cs x w1 (qBQ h hb)
 obtain⟨_,_,_,_,_,rfl,⟨A0,d0,e0,l0,m0,s0⟩,⟨A1,d1,e1,l1,m1,s1⟩,⟨A2,d2,e2,l2,m2,s2⟩,⟨A3,d3,e3,-⟩,⟨A4,d4,e4,-⟩⟩:=h
 simp only[List.cons.injEq,and_true] at e0 e1 e2 e3 e4
 subst e0 e1 e2 e3 e4
 obtain⟨n0,h0⟩:∃n,x.recs.length=n:=⟨_,rfl⟩
 obtain⟨n1,h1⟩:∃n,x.funcs.length=n:=⟨_,rfl⟩
 obtain⟨n2,h2⟩:∃n,x.imps.length=n:=⟨_,rfl⟩
 rw[h0,h1,h2] at TE⊢
 generalize x.ints.length=n3 at*
 generalize x.texts.length=n4 at*
 have TE2:Hid (∀w1,Below w.heap.size w w1→Calls Tryz.prog 49 #[.agg #[.slice A0 n0 d0,.slice A1 n1 d1,.slice A2 n2 d2,.slice A3 n3 d3,.slice A4 n4 d4]] w1 (Errs (checkN x) w1)):=TE.out
 clear TE
 show Calls Tryz.prog 91 #[.agg #[.slice A0 n0 d0,.slice A1 n1 d1,.slice A2 n2 d2,.slice A3 n3 d3,.slice A4 n4 d4],.int .i64 (j:Int),.int .i64 pc,.slice D k g] w (Flows (flowB x (j:Int) pc ts) w)
 have HB0:Hid (∀o:Obj,Below w.heap.size w (w.alloc o)):=fun o=>qAj w o
 have HC0:Hid (C5 w.heap.size (.slice A0 n0 d0) (.slice A1 n1 d1) (.slice A2 n2 d2) (.slice A3 n3 d3) (.slice A4 n4 d4) (w.alloc (.cells #[.slice A0 n0 d0,.slice A1 n1 d1,.slice A2 n2 d2,.slice A3 n3 d3,.slice A4 n4 d4] 28))):=by show C5 _ _ _ _ _ _ _;simp[C5,go_sem]
 rw[qGk hfn hp]
 obtain⟨a,ccs,ea,hab,hcl,hR⟩:=s1.at hfn
 subst ea
 obtain⟨p0,p1,p2,rfl,hr1,hr2,⟨P0,c0,e4,f0,f1,t0⟩,⟨P1,c1,e5,f2,f3,t1⟩,⟨P2,c2,e6,f4,f5,t2⟩⟩:=hR
 simp only[List.cons.injEq,and_true] at e4 e5 e6
 subst e4 e5 e6
 have HCL:Hid (∀v,Below w.heap.size w v→v.cell? (a.add (j*5))=some (.slice P0 fn.args.length c0)∧v.cell? ⟨(a.add (j*5)).block,(a.add (j*5)).off+1,none⟩=some (.int .i64 fn.ret.1)∧v.cell? ⟨(a.add (j*5)).block,(a.add (j*5)).off+2,none⟩=some (.int .i64 fn.ret.2)∧v.cell? ⟨(a.add (j*5)).block,(a.add (j*5)).off+3,none⟩=some (.slice P1 fn.locs.length c1)∧v.cell? ⟨(a.add (j*5)).block,(a.add (j*5)).off+4,none⟩=some (.slice P2 fn.code.length c2)):=fun v hb=>by
  have k0:=(hb.cell (p:=a.add (j*5)) qE).trans (hcl 0 _ rfl)
  have k1:=(hb.cell (p:=a.add (j*5+1)) qE).trans (hcl 1 _ rfl)
  have k2:=(hb.cell (p:=a.add (j*5+2)) qE).trans (hcl 2 _ rfl)
  have k3:=(hb.cell (p:=a.add (j*5+3)) qE).trans (hcl 3 _ rfl)
  have k4:=(hb.cell (p:=a.add (j*5+4)) qE).trans (hcl 4 _ rfl)
  rw[qAl a (j*5) 1 (by omega)] at k1
  rw[qAl a (j*5) 2 (by omega)] at k2
  rw[qAl a (j*5) 3 (by omega)] at k3
  rw[qAl a (j*5) 4 (by omega)] at k4
  exact⟨k0,k1,k2,k3,k4⟩
 have hjn:(j:Int)<(n1:Int):=by have:=(qAh.1 hfn).1;omega
 have hn8:n1≤8:=by have:=(qBJ.1 (qBI hc)).f8;omega
 rw[hc] at TE2
 have HF:=qAZ (fun v=>qD7 (some a) n1 d1 (j:Int) v)
 rw[show hasB n1 (j:Int)=true by simp[hasB];omega] at HF
 have HI:=qAZ (fun v=>qFz P2 fn.code.length c2 pc v)
 rw[hp] at HI
 clear hc hp hcl s0 s1 s2 h0 h1 h2 l0 l1 l2 m0 m1 m2 t0 t1 t2 f0 f1 f2 f3 f4 f5
 generalize fn.args.length=ua at*
 generalize fn.locs.length=ul at*
 generalize fn.code.length=uc at*
 go_enter Tryz.func91,Tryz.ntmps91
 go_wp2_with (first
  |(go_at_call 49
    refine(TE2.out _ (HB0.out _)).mono ?_
    rintro e w1 ⟨rfl,hb1⟩
    have HB1:=qAZ ((HB0.out _).trans (hb1.mono (by simp)))
    obtain⟨x0,x1,x2,x3,x4⟩:=HC0.out.below hb1 (by simp)
    have hs1:w.heap.size<w1.heap.size:=zU
    obtain⟨y0,y1,y2,y3,y4⟩:=HCL.out _ HB1.out
    clear hb1)
  |(go_at_call 115
    refine(HF.out _).mono ?_
    rintro e w2 ⟨rfl,rfl⟩)
  |(go_at_call 116
    refine(HI.out _).mono ?_
    rintro e w2 ⟨rfl,rfl⟩))
 go_ret3
 exact qCC HB1.out
end Go.Proofs.YtconajaecpgjgaaGreat
