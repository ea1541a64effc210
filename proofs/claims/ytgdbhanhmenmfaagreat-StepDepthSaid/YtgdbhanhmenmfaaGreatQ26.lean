/-
Ixwhn Ixwob Ixhgh Jb Jp Jin Fon1 Fon2 Fon3 Fon4 Fon Ixhan Ixwrg Sc1
-/
import Derived.Test.YtgdbhanhmenmfaaGreatQ02
import Derived.Test.YtgdbhanhmenmfaaGreatQ03
import Derived.Test.YtgdbhanhmenmfaaGreatQ05
import Derived.Test.YtgdbhanhmenmfaaGreatQ10
import Derived.Test.YtgdbhanhmenmfaaGreatQ24
set_option linter.unusedSimpArgs false
set_option linter.unusedVariables false
set_option maxRecDepth 100000
set_option maxHeartbeats 4000000
namespace Go.Proofs.YtgdbhanhmenmfaaGreat
open Go.RowKit
variable {fn:Fn}{l:List Shape}{m:Mod}{p:Nat}{t:List Typ}
theorem qS {P:Prop} (h:P:=by
 obtain rfl:k=n:=by omega
 go_wp2_with fail
 go_ret;exact⟨_,rfl,by rw[qOn HA.out HL.out];rfl,HB.out⟩):P:=h
theorem qo {P:Prop} (h:P:=by
 go_ret;exact⟨_,rfl,by rw[E.out];simp,Hb2.out⟩):P:=h
theorem qLt (A:Option Addr) (n c:Nat) (xs:List Hnd) (g:Hnd→Bool) (w:World) (hl:xs.length=n) (h:Sq hdL (·<w.heap.size) w A xs) (hn2:n≤9223372036854775807)
 (hG:∀(w1:World) (cs:List Value) (x:Hnd),Below w.heap.size w w1→x∈xs→hdL.R (·<w1.heap.size) w1 cs x→Calls Tryz.prog 53 #[vAgg cs] w1 (Tells (g x) w1)):
 Calls Tryz.prog 91 #[.slice A n c,.func (.func 53) #[] #[]] w fun e w'=>∃k:Int,e= .returned (.int .i64 k)∧decide (0≤k)=xs.any g∧Below w.heap.size w w':=by
 refine jn ?_;intro HL HS HP0;clear hl h hG
 go_enter Tryz.func91,Tryz.ntmps91
 go_wp2_with fail
 go_loopw [8] (fun i wr=>∃k:Nat,k≤n∧i= .int .i64 (k:Nat)∧(xs.take k).any g=false∧Below w.heap.size w wr) (fun i _=>n-(intOf i).toNat)
 case atStart=>exact⟨0,qBU _,rfl,by simp,qBO _ _⟩
 case round=>
  obtain⟨k,hk,rfl,hall,hbel⟩:=hrel;refine jd ?_;intro HA HB hs;clear hall hbel
  by_cases hlt:k<n
  · skip
    refine jA ?_;intro x hx hmem;obtain⟨a,cs,rfl,hab,hc,hr⟩:=HS.out.at hx;have HX:=qBK hx;clear hx;have HR:=qBK hr;obtain⟨rfl,-,-⟩:=hr;refine jY ?_;intro c0 c1;rw[qBT a (k*3) 1 (by omega)] at c1;refine qAQ ?_;intro c2;rw[qBT a (k*3) 2 (by omega)] at c2;have HP:Hid (∀w1,Below w.heap.size w w1→Calls Tryz.prog 53 #[.agg #[.int .i64 x.kind,.int .u64 (x.desc:Int),.bool x.opn]] w1 (Tells (g x) w1)):=fun w1 hb=>HP0.out w1 [.int .i64 x.kind,.int .u64 (x.desc:Int),.bool x.opn] x hb hmem (hdL.wide (hdL.keep HR.out fun b hb1=>hb.block b hb1) fun b hb1=>qBN hb1 hb.size);clear hc;have hk0:0≤(k:Int):=by omega
    cases hg:g x
    · rw[hg] at HP
      have HG:=qBK hg;clear hg
      go_wp2_with (first
       |(go_at_call 53
         refine(HP.out _ HB.out).mono ?_;rintro e w2 ⟨rfl,hb2⟩;refine ju ?_;intro Hb2;clear hb2))
      exact qV
    · rw[hg] at HP
      refine qAG ?_;intro e E;clear e hg
      go_wp2_with (first
       |(go_at_call 53
         refine(HP.out _ HB.out).mono ?_;rintro e w2 ⟨rfl,hb2⟩;refine ju ?_;intro Hb2;clear hb2))
      exact qo
  · exact qS
theorem qEf (A:Option Addr) (n c:Nat) (xs:List Hnd) (g:Hnd→Bool) (w:World) (hl:xs.length=n) (h:Sq hdL (·<w.heap.size) w A xs) (hn2:n≤9223372036854775807)
 (hG:∀(w1:World) (cs:List Value) (x:Hnd),Below w.heap.size w w1→x∈xs→hdL.R (·<w1.heap.size) w1 cs x→Calls Tryz.prog 53 #[vAgg cs] w1 (Tells (g x) w1)):
 Calls Tryz.prog 52 #[.slice A n c,.func (.func 53) #[] #[]] w (Tells (xs.any g) w):=by
 have HC:=qBK (qLt A n c xs g w hl h hn2 hG);clear hl h hG;generalize xs.any g=ab at*
 go_enter Tryz.func52,Tryz.ntmps52
 go_wp2_with (first|(go_at_call 91;refine HC.out.mono ?_;rintro e w1 ⟨k,rfl,hk,hb⟩;have HB:=qBK hb;have HK:=qBK hk;clear hb hk))
 go_ret;exact⟨by rw[←HK.out];rfl,HB.out⟩
theorem qLs (A:Option Addr) (n c:Nat) (xs:List Ob) (g:Ob→Bool) (p7:Addr) (p8:Addr) (w:World) (hl:xs.length=n) (h:Sq obL (·<w.heap.size) w A xs) (hn2:n≤9223372036854775807)
 (hG:∀(w1:World) (cs:List Value) (x:Ob),Below w.heap.size w w1→x∈xs→obL.R (·<w1.heap.size) w1 cs x→Calls Tryz.prog 93 #[vAgg cs,.pointer (some p7),.pointer (some p8)] w1 (Tells (g x) w1)):
 Calls Tryz.prog 92 #[.slice A n c,.func (.func 93) #[] #[.pointer (some p7),.pointer (some p8)]] w fun e w'=>∃k:Int,e= .returned (.int .i64 k)∧decide (0≤k)=xs.any g∧Below w.heap.size w w':=by
 refine jn ?_;intro HL HS HP0;clear hl h hG
 go_enter Tryz.func92,Tryz.ntmps92
 go_wp2_with fail
 go_loopw [8] (fun i wr=>∃k:Nat,k≤n∧i= .int .i64 (k:Nat)∧(xs.take k).any g=false∧Below w.heap.size w wr) (fun i _=>n-(intOf i).toNat)
 case atStart=>exact⟨0,qBU _,rfl,by simp,qBO _ _⟩
 case round=>
  obtain⟨k,hk,rfl,hall,hbel⟩:=hrel;refine jd ?_;intro HA HB hs;clear hall hbel
  by_cases hlt:k<n
  · skip
    refine jA ?_;intro x hx hmem;obtain⟨a,cs,rfl,hab,hc,hr⟩:=HS.out.at hx;have HX:=qBK hx;clear hx;have HR:=qBK hr;obtain⟨p0,p1,rfl,-,-,⟨A4,d4,e4,-⟩,⟨A5,d5,e5,-⟩⟩:=hr;simp only[List.cons.injEq,and_true] at e4 e5;subst e4 e5;have c0:=(HB.out.cell (p:=a.add (k*4)) qD).trans (hc 0 _ rfl);have c1:=(HB.out.cell (p:=a.add (k*4+1)) qD).trans (hc 1 _ rfl);rw[qBT a (k*4) 1 (by omega)] at c1;have c2:=(HB.out.cell (p:=a.add (k*4+2)) qD).trans (hc 2 _ rfl);rw[qBT a (k*4) 2 (by omega)] at c2;have c3:=(HB.out.cell (p:=a.add (k*4+3)) qD).trans (hc 3 _ rfl);rw[qBT a (k*4) 3 (by omega)] at c3;have HP:Hid (∀w1,Below w.heap.size w w1→Calls Tryz.prog 93 #[.agg #[.int .i64 x.kind,.int .i64 x.n,.slice A4 x.words.length d4,.slice A5 x.bytes.length d5],.pointer (some p7),.pointer (some p8)] w1 (Tells (g x) w1)):=fun w1 hb=>HP0.out w1 [.int .i64 x.kind,.int .i64 x.n,.slice A4 x.words.length d4,.slice A5 x.bytes.length d5] x hb hmem (obL.wide (obL.keep HR.out fun b hb1=>hb.block b hb1) fun b hb1=>qBN hb1 hb.size);clear hc;have hk0:0≤(k:Int):=by omega
    cases hg:g x
    · rw[hg] at HP
      have HG:=qBK hg;clear hg
      go_wp2_with (first
       |(go_at_call 93
         refine(HP.out _ HB.out).mono ?_;rintro e w2 ⟨rfl,hb2⟩;refine ju ?_;intro Hb2;clear hb2))
      exact qV
    · rw[hg] at HP
      refine qAG ?_;intro e E;clear e hg
      go_wp2_with (first
       |(go_at_call 93
         refine(HP.out _ HB.out).mono ?_;rintro e w2 ⟨rfl,hb2⟩;refine ju ?_;intro Hb2;clear hb2))
      exact qo
  · exact qS
theorem qCS (A:Option Addr) (n c:Nat) (xs:List Ob) (g:Ob→Bool) (p7:Addr) (p8:Addr) (w:World) (hl:xs.length=n) (h:Sq obL (·<w.heap.size) w A xs) (hn2:n≤9223372036854775807)
 (hG:∀(w1:World) (cs:List Value) (x:Ob),Below w.heap.size w w1→x∈xs→obL.R (·<w1.heap.size) w1 cs x→Calls Tryz.prog 93 #[vAgg cs,.pointer (some p7),.pointer (some p8)] w1 (Tells (g x) w1)):
 Calls Tryz.prog 54 #[.slice A n c,.func (.func 93) #[] #[.pointer (some p7),.pointer (some p8)]] w (Tells (xs.any g) w):=by
 have HC:=qBK (qLs A n c xs g p7 p8 w hl h hn2 hG);clear hl h hG;generalize xs.any g=ab at*
 go_enter Tryz.func54,Tryz.ntmps54
 go_wp2_with (first|(go_at_call 92;refine HC.out.mono ?_;rintro e w1 ⟨k,rfl,hk,hb⟩;have HB:=qBK hb;have HK:=qBK hk;clear hb hk))
 go_ret;exact⟨by rw[←HK.out];rfl,HB.out⟩
theorem qLw (A:Option Addr) (n c:Nat) (xs:List Shape) (g:Shape→Bool) (w:World) (hl:xs.length=n) (h:Sq shpL (·<w.heap.size) w A xs) (hn2:n≤9223372036854775807)
 (hG:∀(w1:World) (cs:List Value) (x:Shape),Below w.heap.size w w1→x∈xs→shpL.R (·<w1.heap.size) w1 cs x→Calls Tryz.prog 88 #[vAgg cs] w1 (Tells (g x) w1)):
 Calls Tryz.prog 149 #[.slice A n c,.func (.func 88) #[] #[]] w fun e w'=>∃k:Int,e= .returned (.int .i64 k)∧decide (0≤k)=xs.any g∧Below w.heap.size w w':=by
 refine jn ?_;intro HL HS HP0;clear hl h hG
 go_enter Tryz.func149,Tryz.ntmps149
 go_wp2_with fail
 go_loopw [8] (fun i wr=>∃k:Nat,k≤n∧i= .int .i64 (k:Nat)∧(xs.take k).any g=false∧Below w.heap.size w wr) (fun i _=>n-(intOf i).toNat)
 case atStart=>exact⟨0,qBU _,rfl,by simp,qBO _ _⟩
 case round=>
  obtain⟨k,hk,rfl,hall,hbel⟩:=hrel;refine jd ?_;intro HA HB hs;clear hall hbel
  by_cases hlt:k<n
  · skip
    refine jA ?_;intro x hx hmem;obtain⟨a,cs,rfl,hab,hc,hr⟩:=HS.out.at hx;have HX:=qBK hx;clear hx;have HR:=qBK hr;obtain⟨v9,rfl,A9,d9,e9,-⟩:=hr;simp only[List.cons.injEq,and_true] at e9;subst e9;refine jf ?_;intro c0 c1;rw[qBT a (k*2) 1 (by omega)] at c1;have HP:Hid (∀w1,Below w.heap.size w w1→Calls Tryz.prog 88 #[.agg #[.bool x.1,.slice A9 x.2.length d9]] w1 (Tells (g x) w1)):=fun w1 hb=>HP0.out w1 [.bool x.1,.slice A9 x.2.length d9] x hb hmem (shpL.wide (shpL.keep HR.out fun b hb1=>hb.block b hb1) fun b hb1=>qBN hb1 hb.size);clear hc;have hk0:0≤(k:Int):=by omega
    cases hg:g x
    · rw[hg] at HP
      have HG:=qBK hg;clear hg
      go_wp2_with (first
       |(go_at_call 88
         refine(HP.out _ HB.out).mono ?_;rintro e w2 ⟨rfl,hb2⟩;refine ju ?_;intro Hb2;clear hb2))
      exact qV
    · rw[hg] at HP
      refine qAG ?_;intro e E;clear e hg
      go_wp2_with (first
       |(go_at_call 88
         refine(HP.out _ HB.out).mono ?_;rintro e w2 ⟨rfl,hb2⟩;refine ju ?_;intro Hb2;clear hb2))
      exact qo
  · exact qS
theorem qHk (A:Option Addr) (n c:Nat) (xs:List Shape) (g:Shape→Bool) (w:World) (hl:xs.length=n) (h:Sq shpL (·<w.heap.size) w A xs) (hn2:n≤9223372036854775807)
 (hG:∀(w1:World) (cs:List Value) (x:Shape),Below w.heap.size w w1→x∈xs→shpL.R (·<w1.heap.size) w1 cs x→Calls Tryz.prog 88 #[vAgg cs] w1 (Tells (g x) w1)):
 Calls Tryz.prog 87 #[.slice A n c,.func (.func 88) #[] #[]] w (Tells (xs.any g) w):=by
 have HC:=qBK (qLw A n c xs g w hl h hn2 hG);clear hl h hG;generalize xs.any g=ab at*
 go_enter Tryz.func87,Tryz.ntmps87
 go_wp2_with (first|(go_at_call 149;refine HC.out.mono ?_;rintro e w1 ⟨k,rfl,hk,hb⟩;have HB:=qBK hb;have HK:=qBK hk;clear hb hk))
 go_ret;exact⟨by rw[←HK.out];rfl,HB.out⟩
theorem qJ4 (A B:Option Addr) (n m c d:Nat) (xs ys:List Typ) (w:World) (hl:xs.length=n) (hm:ys.length=m) (h:Sq typL (·<w.heap.size) w A xs) (h':Sq typL (·<w.heap.size) w B ys) (hn2:n≤9223372036854775807) (hm2:m≤9223372036854775807):
 Calls Tryz.prog 153 #[.slice A n c,.slice B m d] w (Tells (belowT xs ys) w):=by
 have HC:=qBK (qCn A B n m c d xs ys w hl hm h h' hn2 hm2);clear hl hm h h';generalize belowT xs ys=ab at*
 go_enter Tryz.func153,Tryz.ntmps153
 go_wp2_with (first|(go_at_call 226;refine HC.out.mono ?_;rintro e w1 ⟨rfl,hb⟩;have HB:=qBK hb;clear hb))
 go_ret;exact⟨rfl,HB.out⟩
def highB (x:Shape):Bool:=decide (8<x.2.length)
theorem qN8 (x:Shape) (w:World) (cs:List Value) (h:shpL.R (·<w.heap.size) w cs x):Calls Tryz.prog 88 #[vAgg cs] w (Tells (highB x) w):=by
 obtain⟨b,s⟩:=x;obtain⟨v,rfl,A,d,e,-⟩:=h;simp only[List.cons.injEq,and_true] at e;subst e;simp only[vAgg,highB];generalize s.length=n
 by_cases h8:8<n
 · have h8i:(8:Int)<(n:Int):=by omega
   rw[decide_eq_true h8];clear h8
   go_enter Tryz.func88,Tryz.ntmps88
   go_wp2_with fail
   go_ret;exact⟨by simp[h8i],qBe _ _⟩
 · have h8i:¬(8:Int)<(n:Int):=by omega
   rw[decide_eq_false h8];clear h8
   go_enter Tryz.func88,Tryz.ntmps88
   go_wp2_with fail
   go_ret;exact⟨by simp[h8i],qBe _ _⟩
def goesB (t:List Typ) (l:List Shape) (k:Int):Bool:=
 match l[k.toNat]? with
 |some (true,u)=>belowT t u
 |_=>false
theorem qL4 {u:List Typ} {k:Nat} (h:l[k]? =some (true,u)):goesB t l (k:Int)=belowT t u:=by simp[goesB,h]
theorem qOJ {u:List Typ} {k:Nat} (h:l[k]? =some (false,u)):goesB t l (k:Int)=false:=by simp[goesB,h]
theorem okF_no {s:List Typ} (h:l[p]? =some (false,s)):okF m fn l p=true:=by simp[okF,h]
theorem okF_yes {s:List Typ} {i:Ins} {er:Int} {ks:List Int} (h:l[p]? =some (true,s)) (hi:fn.code[p]? =some i) (hf:insB8 m fn i p s=(er,t,ks)):okF m fn l p=(er==0 && ks.all (goesB t l)):=by
 unfold okF;rw[h,hi];simp only[hf]
 rfl
theorem okF_of (h:okAt m fn (toS l) p):okF m fn l p=true:=by
 unfold okF;split
 · rename_i s i hs hi
   obtain⟨i',t,ks,h1,h2,h3⟩:=h s (qBx hs);rw[hi] at h1;injection h1 with h1;subst h1;rw[h2];simp only[Bool.and_eq_true,beq_iff_eq,List.all_eq_true,true_and];intro k hk;obtain⟨u,hu,hb⟩:=h3 k hk t rfl;rw[qDJ hu];exact hb
 · rename_i s hs hi
   obtain⟨i',t,ks,h1,-⟩:=h s (qBx hs);rw[hi] at h1
   cases h1
 · rfl
theorem not_all {α:Type} (l:List α) (f:α→Bool):(l.any fun k=> !f k)= !l.all f:=by
 induction l with
 |nil=>rfl
 |cons a l ih=>simp only[List.any_cons,List.all_cons,ih,Bool.not_and]
def RRight (x:Mod) (L:List (List Shape)) (w:World) (e:Ending) (w':World):Prop:=
 Below w.heap.size w w'∧∃b:Bool,e= .returned (.bool b)∧(b=true↔mainB x=true∧RightM x L)
theorem qCi {x:Mod} {L:List (List Shape)} {w w':World} (hb:Below w.heap.size w w') (h:mainB x=true→RightM x L→False):RRight x L w (.returned (.bool false)) w':=
 ⟨hb,false,rfl,⟨fun e=>(by cases e),fun h2=>(h h2.1 h2.2).elim⟩⟩
theorem qLu (A:Option Addr) (n c:Nat) (xs:List Int) (g:Int→Bool) (p7 p8:Addr) (w:World) (hl:xs.length=n) (h:∀j x,xs[j]? =some x→∃a,A=some a∧a.block<w.heap.size∧w.cell? (a.add j)=some (.int .i64 x)) (hn2:n≤9223372036854775807)
 (hG:∀(w1:World) (x:Int),Below w.heap.size w w1→x∈xs→Calls Tryz.prog 152 #[.int .i64 x,.pointer (some p7),.pointer (some p8)] w1 (Tells (g x) w1)):
 Calls Tryz.prog 228 #[.slice A n c,.func (.func 152) #[] #[.pointer (some p7),.pointer (some p8)]] w fun e w'=>∃k:Int,e= .returned (.int .i64 k)∧decide (0≤k)=xs.any g∧Below w.heap.size w w':=by
 refine jn ?_;intro HL HS HP0;clear hl h hG
 go_enter Tryz.func228,Tryz.ntmps228
 go_wp2_with fail
 go_loopw [8] (fun i wr=>∃k:Nat,k≤n∧i= .int .i64 (k:Nat)∧(xs.take k).any g=false∧Below w.heap.size w wr) (fun i _=>n-(intOf i).toNat)
 case atStart=>exact⟨0,qBU _,rfl,by simp,qBO _ _⟩
 case round=>
  obtain⟨k,hk,rfl,hall,hbel⟩:=hrel;refine jd ?_;intro HA HB hs;clear hall hbel
  by_cases hlt:k<n
  · skip
    refine jA ?_;intro x hx hmem;obtain⟨a,rfl,hab,hc⟩:=HS.out k x hx;have HX:=qBK hx;clear hx;have c0:=(HB.out.cell (p:=a.add k) qD).trans hc;have HP:Hid (∀w1,Below w.heap.size w w1→Calls Tryz.prog 152 #[.int .i64 x,.pointer (some p7),.pointer (some p8)] w1 (Tells (g x) w1)):=fun w1 hb=>HP0.out w1 x hb hmem;clear hc;have hk0:0≤(k:Int):=by omega
    cases hg:g x
    · rw[hg] at HP
      have HG:=qBK hg;clear hg
      go_wp2_with (first
       |(go_at_call 152
         refine(HP.out _ HB.out).mono ?_;rintro e w2 ⟨rfl,hb2⟩;refine ju ?_;intro Hb2;clear hb2))
      exact qV
    · rw[hg] at HP
      refine qAG ?_;intro e E;clear e hg
      go_wp2_with (first
       |(go_at_call 152
         refine(HP.out _ HB.out).mono ?_;rintro e w2 ⟨rfl,hb2⟩;refine ju ?_;intro Hb2;clear hb2))
      exact qo
  · exact qS
theorem qHi (A:Option Addr) (n c:Nat) (xs:List Int) (g:Int→Bool) (p7 p8:Addr) (w:World) (hl:xs.length=n) (h:∀j x,xs[j]? =some x→∃a,A=some a∧a.block<w.heap.size∧w.cell? (a.add j)=some (.int .i64 x)) (hn2:n≤9223372036854775807)
 (hG:∀(w1:World) (x:Int),Below w.heap.size w w1→x∈xs→Calls Tryz.prog 152 #[.int .i64 x,.pointer (some p7),.pointer (some p8)] w1 (Tells (g x) w1)):
 Calls Tryz.prog 154 #[.slice A n c,.func (.func 152) #[] #[.pointer (some p7),.pointer (some p8)]] w (Tells (xs.any g) w):=by
 have HC:=qBK (qLu A n c xs g p7 p8 w hl h hn2 hG);clear hl h hG;generalize xs.any g=ab at*
 go_enter Tryz.func154,Tryz.ntmps154
 go_wp2_with (first|(go_at_call 228;refine HC.out.mono ?_;rintro e w1 ⟨k,rfl,hk,hb⟩;have HB:=qBK hb;have HK:=qBK hk;clear hb hk))
 go_ret;exact⟨by rw[←HK.out];rfl,HB.out⟩
theorem on_few (A B D:Option Addr) (n m k c d g:Nat) (ins outs ts:List Typ) (w:World) (hn:ins.length=n) (hm:outs.length=m) (hk:ts.length=k) (sn:Sq typL (·<w.heap.size) w A ins) (sm:Sq typL (·<w.heap.size) w B outs) (sk:Sq typL (·<w.heap.size) w D ts)
 (hlt:k<n) (bn:n≤1000) (bm:m≤1000) (bk:k≤1000) (bg:k≤g) (bg2:g≤9223372036854775807) (bd:m≤d) (bd2:d≤9223372036854775807):Calls Tryz.prog 223 #[.agg #[.slice A n c,.slice B m d],.slice D k g] w (Moved (movB ts ins outs) w):=by
 refine qAx ?_;intro HN HM HK SN SM SK;refine jx ?_;intro HB0;clear hn hm hk sn sm sk;have e1:(k:Int)-(n:Int)<0:=by omega
 have HV:=qBK (qDu (outs:=outs) (show ts.length<ins.length by rw[HK.out,HN.out];exact hlt));clear hlt
 go_enter Tryz.func223,Tryz.ntmps223
 go_wp2_with fail
 refine qBV fun U hU=> ?_;have HBU:Hid (Below w.heap.size w U):=by show Below _ _ _;rw[hU];exact HB0.out _
 clear hU;refine jy ?_;intro HBR;refine wp_region_quiet_below qR qR ?_
 repeat(quiet_step (fail))
 refine wpQuiet_nil ?_;intro _ hw';obtain⟨⟨dq,osq⟩,hw''⟩:=hw';subst hw''
 go_wp2_with fail
 go_ret2;exact⟨HBR.out dq osq,.inl ⟨HV.out,rfl⟩⟩
theorem on_far (A B:Option Addr) (a:Addr) (n m k c d g:Nat) (ins outs ts:List Typ) (w:World) (hn:ins.length=n) (hm:outs.length=m) (hk:ts.length=k) (sn:Sq typL (·<w.heap.size) w A ins) (sm:Sq typL (·<w.heap.size) w B outs) (sk:Sq typL (·<w.heap.size) w (some a) ts)
 (hlt:¬k<n) (hg:¬g=k-n) (bn:n≤1000) (bm:m≤1000) (bk:k≤1000) (bg:k≤g) (bg2:g≤9223372036854775807) (bd:m≤d) (bd2:d≤9223372036854775807):Calls Tryz.prog 223 #[.agg #[.slice A n c,.slice B m d],.slice (some a) k g] w (Moved (movB ts ins outs) w):=by
 refine qAx ?_;intro HN HM HK SN SM SK;refine jx ?_;intro HB0;clear hn hm hk sn sm sk;refine jz ?_;intro b hb HBe HLe e1 e2 e3 e4 e5 e6 e7 e8;have TE:Hid (∀w1 D' c',Below w.heap.size w w1→(b<k→D'=(some a).map (·.add (b*2)))→Calls Tryz.prog 226 #[.slice D' n c',.slice A n c,.func (.func 227) #[] #[]] w1 fun e w'=>e= .returned (.bool (belowT (ts.drop b) ins))∧Below w1.heap.size w1 w'):=fun w1 D' c' hb1 hd=>
  qCn D' A n n c' c (ts.drop b) ins w1 (by rw[List.length_drop,HK.out];exact e6) HN.out (qKl ((SK.out.below hb1 (qBL _)).wide fun i hi=>qBN hi hb1.size) D' (by rw[HK.out];exact hd)) ((SN.out.below hb1 (qBL _)).wide fun i hi=>qBN hi hb1.size) (by omega) (by omega)
 have TC:Hid (∀w1 G,Below w.heap.size w w1→Blk w1 G 62 #[.slice (some a) b g,.slice B m d]→Calls Tryz.prog 98 #[.slice (some ⟨G,0,none⟩) 2 2] w1 fun e w'=>∃v,e= .returned v∧w'.ownsRow w1.heap.size 61 2 v (ts.take b++outs).length (T2 (ts.take b++outs))∧Below w1.heap.size w1 w'):=fun w1 G hb1 hblk=>by
  refine jg ?_;intro lb r0 r1 A9 c9 e9 hsq;simp only[List.cons.injEq,Value.slice.injEq,and_true] at e9;obtain⟨rfl,-,-⟩:=e9;have:=qDc (some ⟨G,0,none⟩) 2 2 [ts.take b,outs] w1 rfl hsq (by simp only[List.flatten_cons,List.flatten_nil,List.append_nil,List.length_append,lb,HM.out];omega) (by omega);simpa using this
 refine jX ?_;intro HC HV0 HV1 HV2;rw[hb] at hg;clear hlt hb;have TE2:Hid (∀w1 c',Below w.heap.size w w1→Calls Tryz.prog 226 #[.slice (some (a.add (b*2))) n c',.slice A n c,.func (.func 227) #[] #[]] w1 fun e w'=>e= .returned (.bool (belowT (ts.drop b) ins))∧Below w1.heap.size w1 w'):=fun w1 c' hb1=>TE.out w1 _ c' hb1 (fun h=>rfl);clear TE
 cases hbt:belowT (ts.drop b) ins
 case' true=>by_cases h8:8<b+m
 all_goals
  rw[hbt] at TE2;have HBT:=qBK hbt;clear hbt;have hw1:IntKind.i64.wrap ((b:Int)+(m:Int))=(b:Int)+(m:Int):=by rw[qBi];omega
  try(have h8i:decide ((8:Int)<(b:Int)+(m:Int))=decide (8<b+m):=by rw[decide_eq_decide];omega)
  try rw[decide_eq_true h8] at h8i
  try rw[decide_eq_false h8] at h8i
  go_enter Tryz.func223,Tryz.ntmps223
  go_wp2_with fail
  refine qBV fun U hU=> ?_;refine qAL ?_;intro HBU HCU hsU;clear hU;refine jy ?_;intro HBR;have x0:=cell_regrown HCU.out.1;have x1:=cell_regrown HCU.out.2;refine wp_region_quiet_below qR qR ?_
  repeat(quiet_step (first|with_reducible exact Calls.regrown_of (TE2.out _ _ (HBR.out _ _))))
  refine wpQuiet_nil ?_;intro _ hw';obtain⟨⟨dq,osq⟩,hw''⟩:=hw';subst hw'';refine qAM ?_;intro HB1 HS1
  go_wp2_with fail
  first
  |(go_ret2
    exact⟨HB1.out,.inl ⟨by first|exact HV0.out HBT.out|exact HV1.out h8,rfl⟩⟩)
  |skip
 all_goals
  refine qBV fun V hV=> ?_;refine jt ?_;intro HBV HCV hsV;have HVX:=qBK (HV2.out HBT.out (by omega));clear hV x0 x1
  go_region_held3 (fun w'=>w'.cell? ⟨w.heap.size,1,none⟩=some (.slice B m d))
   (first|exact HCV.out|exact SS4.out|exact(((qBe V _).cell (p:=⟨w.heap.size,1,none⟩) hsV).trans HCV.out)|exact(((qBe V _).drew.cell (p:=⟨w.heap.size,1,none⟩) hsV).trans HCV.out))
   (first
   |(go_at_call 98
     refine(TC.out _ V.heap.size ((HBV.out.alloc HBV.out.size _).drew) (qCT V _ _)).mono ?_;rintro e w4 ⟨v4,rfl,hown4,hb4⟩;refine qAX ?_;intro HO4 HB4 SS4;clear hown4 hb4))
  go_wp2_with fail
  go_ret2;refine⟨HBV.out.trans (HB4.out.mono HBV.out.size),.inr ⟨_,v4,HVX.out,rfl,?_⟩⟩;refine⟨HO4.out.1,?_⟩;rcases HO4.out.2 with h|⟨g',cap,cur,e,hb2,rest⟩
  · exact .inl h
  · exact zn
theorem on_full (A B:Option Addr) (a:Addr) (n m k c d g:Nat) (ins outs ts:List Typ) (w:World) (hn:ins.length=n) (hm:outs.length=m) (hk:ts.length=k) (sn:Sq typL (·<w.heap.size) w A ins) (sm:Sq typL (·<w.heap.size) w B outs) (sk:Sq typL (·<w.heap.size) w (some a) ts)
 (hlt:¬k<n) (hg:g=k-n) (bn:n≤1000) (bm:m≤1000) (bk:k≤1000) (bg:k≤g) (bg2:g≤9223372036854775807) (bd:m≤d) (bd2:d≤9223372036854775807):Calls Tryz.prog 223 #[.agg #[.slice A n c,.slice B m d],.slice (some a) k g] w (Moved (movB ts ins outs) w):=by
 refine qAx ?_;intro HN HM HK SN SM SK;refine jx ?_;intro HB0;clear hn hm hk sn sm sk;refine jz ?_;intro b hb HBe HLe e1 e2 e3 e4 e5 e6 e7 e8;have TE:Hid (∀w1 D' c',Below w.heap.size w w1→(b<k→D'=(some a).map (·.add (b*2)))→Calls Tryz.prog 226 #[.slice D' n c',.slice A n c,.func (.func 227) #[] #[]] w1 fun e w'=>e= .returned (.bool (belowT (ts.drop b) ins))∧Below w1.heap.size w1 w'):=fun w1 D' c' hb1 hd=>
  qCn D' A n n c' c (ts.drop b) ins w1 (by rw[List.length_drop,HK.out];exact e6) HN.out (qKl ((SK.out.below hb1 (qBL _)).wide fun i hi=>qBN hi hb1.size) D' (by rw[HK.out];exact hd)) ((SN.out.below hb1 (qBL _)).wide fun i hi=>qBN hi hb1.size) (by omega) (by omega)
 have TC:Hid (∀w1 G,Below w.heap.size w w1→Blk w1 G 62 #[.slice (some a) b g,.slice B m d]→Calls Tryz.prog 98 #[.slice (some ⟨G,0,none⟩) 2 2] w1 fun e w'=>∃v,e= .returned v∧w'.ownsRow w1.heap.size 61 2 v (ts.take b++outs).length (T2 (ts.take b++outs))∧Below w1.heap.size w1 w'):=fun w1 G hb1 hblk=>by
  refine jg ?_;intro lb r0 r1 A9 c9 e9 hsq;simp only[List.cons.injEq,Value.slice.injEq,and_true] at e9;obtain⟨rfl,-,-⟩:=e9;have:=qDc (some ⟨G,0,none⟩) 2 2 [ts.take b,outs] w1 rfl hsq (by simp only[List.flatten_cons,List.flatten_nil,List.append_nil,List.length_append,lb,HM.out];omega) (by omega);simpa using this
 refine jX ?_;intro HC HV0 HV1 HV2;rw[hb] at hg;clear hlt hb;have hg2:=hg.symm;clear hg;subst hg2;have TE2:Hid (∀w1 c',Below w.heap.size w w1→Calls Tryz.prog 226 #[.slice (some a) n c',.slice A n c,.func (.func 227) #[] #[]] w1 fun e w'=>e= .returned (.bool (belowT (ts.drop b) ins))∧Below w1.heap.size w1 w'):=fun w1 c' hb1=>TE.out w1 _ c' hb1 (fun h=>by omega);clear TE
 cases hbt:belowT (ts.drop b) ins
 case' true=>by_cases h8:8<b+m
 all_goals
  rw[hbt] at TE2;have HBT:=qBK hbt;clear hbt;have hw1:IntKind.i64.wrap ((b:Int)+(m:Int))=(b:Int)+(m:Int):=by rw[qBi];omega
  try(have h8i:decide ((8:Int)<(b:Int)+(m:Int))=decide (8<b+m):=by rw[decide_eq_decide];omega)
  try rw[decide_eq_true h8] at h8i
  try rw[decide_eq_false h8] at h8i
  go_enter Tryz.func223,Tryz.ntmps223
  go_wp2_with fail
  refine qBV fun U hU=> ?_;refine qAL ?_;intro HBU HCU hsU;clear hU;refine jy ?_;intro HBR;have x0:=cell_regrown HCU.out.1;have x1:=cell_regrown HCU.out.2;refine wp_region_quiet_below qR qR ?_
  repeat(quiet_step (first|with_reducible exact Calls.regrown_of (TE2.out _ _ (HBR.out _ _))))
  refine wpQuiet_nil ?_;intro _ hw';obtain⟨⟨dq,osq⟩,hw''⟩:=hw';subst hw'';refine qAM ?_;intro HB1 HS1
  go_wp2_with fail
  first
  |(go_ret2
    exact⟨HB1.out,.inl ⟨by first|exact HV0.out HBT.out|exact HV1.out h8,rfl⟩⟩)
  |skip
 all_goals
  refine qBV fun V hV=> ?_;refine jt ?_;intro HBV HCV hsV;have HVX:=qBK (HV2.out HBT.out (by omega));clear hV x0 x1
  go_region_held3 (fun w'=>w'.cell? ⟨w.heap.size,1,none⟩=some (.slice B m d))
   (first|exact HCV.out|exact SS4.out|exact(((qBe V _).cell (p:=⟨w.heap.size,1,none⟩) hsV).trans HCV.out)|exact(((qBe V _).drew.cell (p:=⟨w.heap.size,1,none⟩) hsV).trans HCV.out))
   (first
   |(go_at_call 98
     refine(TC.out _ V.heap.size ((HBV.out.alloc HBV.out.size _).drew) (qCT V _ _)).mono ?_;rintro e w4 ⟨v4,rfl,hown4,hb4⟩;refine qAX ?_;intro HO4 HB4 SS4;clear hown4 hb4))
  go_wp2_with fail
  go_ret2;refine⟨HBV.out.trans (HB4.out.mono HBV.out.size),.inr ⟨_,v4,HVX.out,rfl,?_⟩⟩;refine⟨HO4.out.1,?_⟩;rcases HO4.out.2 with h|⟨g',cap,cur,e,hb2,rest⟩
  · exact .inl h
  · exact zn
theorem on_none (A B:Option Addr) (m c d:Nat) (ins outs ts:List Typ) (w:World) (hn:ins.length=0) (hm:outs.length=m) (hk:ts.length=0) (sn:Sq typL (·<w.heap.size) w A ins) (sm:Sq typL (·<w.heap.size) w B outs) (sk:Sq typL (·<w.heap.size) w none ts)
 (bm:m≤1000) (bd:m≤d) (bd2:d≤9223372036854775807):Calls Tryz.prog 223 #[.agg #[.slice A 0 c,.slice B m d],.slice none 0 0] w (Moved (movB ts ins outs) w):=by
 obtain rfl:ins=[]:=qBY hn;obtain rfl:ts=[]:=qBY hk;have HM:=qBK hm;have SM:=qBK sm;refine jx ?_;intro HB0;clear hn hm hk sn sm sk;have TE2:Hid (∀w1 c',Below w.heap.size w w1→Calls Tryz.prog 226 #[.slice none 0 c',.slice A 0 c,.func (.func 227) #[] #[]] w1 fun e w'=>e= .returned (.bool true)∧Below w1.heap.size w1 w'):=fun w1 c' hb1=>
  qCn none A 0 0 c' c [] [] w1 rfl rfl (Sq.nil _ _ _ _) (Sq.nil _ _ _ _) (by omega) (by omega)
 have TC:Hid (∀w1 G,Below w.heap.size w w1→Blk w1 G 62 #[.slice none 0 0,.slice B m d]→Calls Tryz.prog 98 #[.slice (some ⟨G,0,none⟩) 2 2] w1 fun e w'=>∃v,e= .returned v∧w'.ownsRow w1.heap.size 61 2 v outs.length (T2 outs)∧Below w1.heap.size w1 w'):=fun w1 G hb1 hblk=>by
  have r0:tysL.R (·<w1.heap.size) w1 [.slice none 0 0] []:=qFo _ _ _;have r1:tysL.R (·<w1.heap.size) w1 [.slice B m d] outs:=⟨B,d,by rw[HM.out],by rw[HM.out];exact bd,by unfold maxLen;omega,(SM.out.below hb1 (qBL _)).wide fun i hi=>qBN hi hb1.size⟩;obtain⟨A9,c9,e9,-,-,hsq⟩:=qJV (L:=tysL) hblk hblk.lt rfl r0 r1;simp only[List.cons.injEq,Value.slice.injEq,and_true] at e9;obtain⟨rfl,-,-⟩:=e9;have:=qDc (some ⟨G,0,none⟩) 2 2 [[],outs] w1 rfl hsq (by simp only[List.flatten_cons,List.flatten_nil,List.append_nil,List.nil_append,HM.out];omega) (by omega);simpa using this
 have HC:Hid (∀w1,Below (w.heap.size+1) (w.alloc (.cells #[.slice A 0 c,.slice B m d] 287)) w1→w1.cell? ⟨w.heap.size,0,none⟩=some (.slice A 0 c)∧w1.cell? ⟨w.heap.size,1,none⟩=some (.slice B m d)):=fun w1 hb1=>⟨(hb1.cell (p:=⟨w.heap.size,0,none⟩) (by simp)).trans zi,(hb1.cell (p:=⟨w.heap.size,1,none⟩) (by simp)).trans zi⟩;have HV1:Hid (8<m→movB [] [] outs=none):=fun h=>qGj (b:=0) rfl (by rw[HM.out];omega);have HV2:Hid (m≤8→movB [] [] outs=some outs):=fun h2=>qIa (s:=[]) (b:=0) rfl (qBL _) rfl (by rw[HM.out];omega)
 by_cases h8:8<m
 all_goals
  have hw1:IntKind.i64.wrap (m:Int)=(m:Int):=by rw[qBi];omega
  have h8i:decide ((8:Int)<(m:Int))=decide (8<m):=by rw[decide_eq_decide];omega
  try rw[decide_eq_true h8] at h8i
  try rw[decide_eq_false h8] at h8i
  go_enter Tryz.func223,Tryz.ntmps223
  go_wp2_with fail
  refine qBV fun U hU=> ?_;have HBU:Hid (Below w.heap.size w U):=by show Below _ _ _;rw[hU];exact HB0.out _
  have HCU:Hid (U.cell? ⟨w.heap.size,0,none⟩=some (.slice A 0 c)∧U.cell? ⟨w.heap.size,1,none⟩=some (.slice B m d)):=by show _∧_;rw[hU];exact HC.out _ (qBO _ _)
  have hsU:w.heap.size<U.heap.size:=by rw[hU];simp
  clear hU;refine jy ?_;intro HBR;have x0:=cell_regrown HCU.out.1;have x1:=cell_regrown HCU.out.2;refine wp_region_quiet_below qR qR ?_
  repeat(quiet_step (first|with_reducible exact Calls.regrown_of (TE2.out _ _ (HBR.out _ _))))
  refine wpQuiet_nil ?_;intro _ hw';obtain⟨⟨dq,osq⟩,hw''⟩:=hw';subst hw'';refine qAM ?_;intro HB1 HS1
  go_wp2_with fail
  first
  |(go_ret2
    exact⟨HB1.out,.inl ⟨by first|exact HV1.out h8,rfl⟩⟩)
  |skip
 all_goals
  refine qBV fun V hV=> ?_;refine jt ?_;intro HBV HCV hsV;have HVX:=qBK (HV2.out (by omega));clear hV x0 x1
  go_region_held3 (fun w'=>w'.cell? ⟨w.heap.size,1,none⟩=some (.slice B m d))
   (first|exact HCV.out|exact SS4.out|exact(((qBe V _).cell (p:=⟨w.heap.size,1,none⟩) hsV).trans HCV.out)|exact(((qBe V _).drew.cell (p:=⟨w.heap.size,1,none⟩) hsV).trans HCV.out))
   (first
   |(go_at_call 98
     refine(TC.out _ V.heap.size ((HBV.out.alloc HBV.out.size _).drew) (qCT V _ _)).mono ?_;rintro e w4 ⟨v4,rfl,hown4,hb4⟩;refine qAX ?_;intro HO4 HB4 SS4;clear hown4 hb4))
  go_wp2_with fail
  go_ret2;refine⟨HBV.out.trans (HB4.out.mono HBV.out.size),.inr ⟨_,v4,HVX.out,rfl,?_⟩⟩;refine⟨HO4.out.1,?_⟩;rcases HO4.out.2 with h|⟨g',cap,cur,e,hb2,rest⟩
  · exact .inl h
  · exact zn
theorem on_any (A B D:Option Addr) (n m k c d g:Nat) (ins outs ts:List Typ) (w:World) (hn:ins.length=n) (hm:outs.length=m) (hk:ts.length=k) (sn:Sq typL (·<w.heap.size) w A ins) (sm:Sq typL (·<w.heap.size) w B outs) (sk:Sq typL (·<w.heap.size) w D ts)
 (bn:n≤1000) (bm:m≤1000) (bk:k≤1000) (bg:k≤g) (bg2:g≤9223372036854775807) (bd:m≤d) (bd2:d≤9223372036854775807) (hnil:D=none→g=0):Calls Tryz.prog 223 #[.agg #[.slice A n c,.slice B m d],.slice D k g] w (Moved (movB ts ins outs) w):=by
 by_cases hlt:k<n
 · exact on_few A B D n m k c d g ins outs ts w hn hm hk sn sm sk hlt bn bm bk bg bg2 bd bd2
 · cases D with
   |none=>
    obtain rfl:=hnil rfl;obtain rfl:k=0:=by omega
    obtain rfl:n=0:=by omega
    exact on_none A B m c d ins outs ts w hn hm hk sn sm sk bm bd bd2
   |some a=>
    by_cases hg:g=k-n
    · exact on_full A B a n m k c d g ins outs ts w hn hm hk sn sm sk hlt hg bn bm bk bg bg2 bd bd2
    · exact on_far A B a n m k c d g ins outs ts w hn hm hk sn sm sk hlt hg bn bm bk bg bg2 bd bd2
theorem qLx (A:Option Addr) (n c:Nat) (xs:List Typ) (g:Typ→Bool) (w:World) (hl:xs.length=n) (h:Sq typL (·<w.heap.size) w A xs) (hn2:n≤9223372036854775807)
 (hG:∀(w1:World) (cs:List Value) (x:Typ),Below w.heap.size w w1→x∈xs→typL.R (·<w1.heap.size) w1 cs x→Calls Tryz.prog 101 #[vAgg cs] w1 (Tells (g x) w1)):
 Calls Tryz.prog 156 #[.slice A n c,.func (.func 101) #[] #[]] w fun e w'=>∃k:Int,e= .returned (.int .i64 k)∧decide (0≤k)=xs.any g∧Below w.heap.size w w':=by
 refine jn ?_;intro HL HS HP0;clear hl h hG
 go_enter Tryz.func156,Tryz.ntmps156
 go_wp2_with fail
 go_loopw [8] (fun i wr=>∃k:Nat,k≤n∧i= .int .i64 (k:Nat)∧(xs.take k).any g=false∧Below w.heap.size w wr) (fun i _=>n-(intOf i).toNat)
 case atStart=>exact⟨0,qBU _,rfl,by simp,qBO _ _⟩
 case round=>
  obtain⟨k,hk,rfl,hall,hbel⟩:=hrel;refine jd ?_;intro HA HB hs;clear hall hbel
  by_cases hlt:k<n
  · skip
    refine jA ?_;intro x hx hmem;obtain⟨a,cs,rfl,hab,hc,hr⟩:=HS.out.at hx;have HX:=qBK hx;clear hx;have HR:=qBK hr;obtain⟨rfl,-,-⟩:=hr;refine jf ?_;intro c0 c1;rw[qBT a (k*2) 1 (by omega)] at c1;have HP:Hid (∀w1,Below w.heap.size w w1→Calls Tryz.prog 101 #[.agg #[.int .i64 x.1,.int .i64 x.2]] w1 (Tells (g x) w1)):=fun w1 hb=>HP0.out w1 [.int .i64 x.1,.int .i64 x.2] x hb hmem (typL.wide (typL.keep HR.out fun b hb1=>hb.block b hb1) fun b hb1=>qBN hb1 hb.size);clear hc;have hk0:0≤(k:Int):=by omega
    cases hg:g x
    · rw[hg] at HP
      have HG:=qBK hg;clear hg
      go_wp2_with (first
       |(go_at_call 101
         refine(HP.out _ HB.out).mono ?_;rintro e w2 ⟨rfl,hb2⟩;refine ju ?_;intro Hb2;clear hb2))
      exact qV
    · rw[hg] at HP
      refine qAG ?_;intro e E;clear e hg
      go_wp2_with (first
       |(go_at_call 101
         refine(HP.out _ HB.out).mono ?_;rintro e w2 ⟨rfl,hb2⟩;refine ju ?_;intro Hb2;clear hb2))
      exact qo
  · exact qS
theorem qHl (A:Option Addr) (n c:Nat) (xs:List Typ) (g:Typ→Bool) (w:World) (hl:xs.length=n) (h:Sq typL (·<w.heap.size) w A xs) (hn2:n≤9223372036854775807)
 (hG:∀(w1:World) (cs:List Value) (x:Typ),Below w.heap.size w w1→x∈xs→typL.R (·<w1.heap.size) w1 cs x→Calls Tryz.prog 101 #[vAgg cs] w1 (Tells (g x) w1)):
 Calls Tryz.prog 100 #[.slice A n c,.func (.func 101) #[] #[]] w (Tells (xs.any g) w):=by
 have HC:=qBK (qLx A n c xs g w hl h hn2 hG);clear hl h hG;generalize xs.any g=ab at*
 go_enter Tryz.func100,Tryz.ntmps100
 go_wp2_with (first|(go_at_call 156;refine HC.out.mono ?_;rintro e w1 ⟨k,rfl,hk,hb⟩;have HB:=qBK hb;have HK:=qBK hk;clear hb hk))
 go_ret;exact⟨by rw[←HK.out];rfl,HB.out⟩
theorem qLr (A:Option Addr) (n c:Nat) (xs:List Typ) (g:Typ→Bool) (w:World) (hl:xs.length=n) (h:Sq typL (·<w.heap.size) w A xs) (hn2:n≤9223372036854775807)
 (hG:∀(w1:World) (cs:List Value) (x:Typ),Below w.heap.size w w1→x∈xs→typL.R (·<w1.heap.size) w1 cs x→Calls Tryz.prog 161 #[vAgg cs] w1 (Tells (g x) w1)):
 Calls Tryz.prog 156 #[.slice A n c,.func (.func 161) #[] #[]] w fun e w'=>∃k:Int,e= .returned (.int .i64 k)∧decide (0≤k)=xs.any g∧Below w.heap.size w w':=by
 refine jn ?_;intro HL HS HP0;clear hl h hG
 go_enter Tryz.func156,Tryz.ntmps156
 go_wp2_with fail
 go_loopw [8] (fun i wr=>∃k:Nat,k≤n∧i= .int .i64 (k:Nat)∧(xs.take k).any g=false∧Below w.heap.size w wr) (fun i _=>n-(intOf i).toNat)
 case atStart=>exact⟨0,qBU _,rfl,by simp,qBO _ _⟩
 case round=>
  obtain⟨k,hk,rfl,hall,hbel⟩:=hrel;refine jd ?_;intro HA HB hs;clear hall hbel
  by_cases hlt:k<n
  · skip
    refine jA ?_;intro x hx hmem;obtain⟨a,cs,rfl,hab,hc,hr⟩:=HS.out.at hx;have HX:=qBK hx;clear hx;have HR:=qBK hr;obtain⟨rfl,-,-⟩:=hr;refine jf ?_;intro c0 c1;rw[qBT a (k*2) 1 (by omega)] at c1;have HP:Hid (∀w1,Below w.heap.size w w1→Calls Tryz.prog 161 #[.agg #[.int .i64 x.1,.int .i64 x.2]] w1 (Tells (g x) w1)):=fun w1 hb=>HP0.out w1 [.int .i64 x.1,.int .i64 x.2] x hb hmem (typL.wide (typL.keep HR.out fun b hb1=>hb.block b hb1) fun b hb1=>qBN hb1 hb.size);clear hc;have hk0:0≤(k:Int):=by omega
    cases hg:g x
    · rw[hg] at HP
      have HG:=qBK hg;clear hg
      go_wp2_with (first
       |(go_at_call 161
         refine(HP.out _ HB.out).mono ?_;rintro e w2 ⟨rfl,hb2⟩;refine ju ?_;intro Hb2;clear hb2))
      exact qV
    · rw[hg] at HP
      refine qAG ?_;intro e E;clear e hg
      go_wp2_with (first
       |(go_at_call 161
         refine(HP.out _ HB.out).mono ?_;rintro e w2 ⟨rfl,hb2⟩;refine ju ?_;intro Hb2;clear hb2))
      exact qo
  · exact qS
theorem qHh (A:Option Addr) (n c:Nat) (xs:List Typ) (g:Typ→Bool) (w:World) (hl:xs.length=n) (h:Sq typL (·<w.heap.size) w A xs) (hn2:n≤9223372036854775807)
 (hG:∀(w1:World) (cs:List Value) (x:Typ),Below w.heap.size w w1→x∈xs→typL.R (·<w1.heap.size) w1 cs x→Calls Tryz.prog 161 #[vAgg cs] w1 (Tells (g x) w1)):
 Calls Tryz.prog 100 #[.slice A n c,.func (.func 161) #[] #[]] w (Tells (xs.any g) w):=by
 have HC:=qBK (qLr A n c xs g w hl h hn2 hG);clear hl h hG;generalize xs.any g=ab at*
 go_enter Tryz.func100,Tryz.ntmps100
 go_wp2_with (first|(go_at_call 156;refine HC.out.mono ?_;rintro e w1 ⟨k,rfl,hk,hb⟩;have HB:=qBK hb;have HK:=qBK hk;clear hb hk))
 go_ret;exact⟨by rw[←HK.out];rfl,HB.out⟩
theorem qGs (x:Typ) (w:World) (cs:List Value) (hr:typL.R (·<w.heap.size) w cs x):Calls Tryz.prog 101 #[vAgg cs] w (Tells (hanB x) w):=by
 obtain⟨rfl,-,-⟩:=hr
 show Calls Tryz.prog 101 #[.agg #[.int .i64 x.1,.int .i64 x.2]] w (Tells (hanB x) w)
 have HD:Hid (hanB x=(x.1==5)):=by show hanB x=_;rw[Bool.eq_iff_iff];simp[hanB]
 generalize hanB x=gd at*;generalize x.1=q1 at*;generalize x.2=q2 at*
 go_enter Tryz.func101,Tryz.ntmps101
 go_wp2_with fail
 go_ret;exact⟨by rw[HD.out];rfl,(qBO _ _).alloc (qBL _) _⟩
theorem qGS (x:Typ) (w:World) (cs:List Value) (hr:typL.R (·<w.heap.size) w cs x):Calls Tryz.prog 161 #[vAgg cs] w (Tells (!hostB x) w):=by
 have HC:Hid (∀w1,Calls Tryz.prog 101 #[.agg #[.int .i64 x.1,.int .i64 x.2]] w1 (Tells (hanB x) w1)):=fun w1=>qGs x w1 _ ⟨rfl,hr.2⟩;obtain⟨rfl,-,-⟩:=hr
 show Calls Tryz.prog 161 #[.agg #[.int .i64 x.1,.int .i64 x.2]] w (Tells (!hostB x) w)
 refine jk ?_;intro HB0
 by_cases h:x.1=1
 · have HD:Hid (hostB x=true):=by show hostB x=_;simp[hostB,h]
   have b:(x.1 != 1)=false:=by simpa using h
   clear h;generalize hostB x=gd at*;generalize x.1=q1 at*;generalize x.2=q2 at*
   go_enter Tryz.func161,Tryz.ntmps161
   go_wp2_with fail
   go_ret;exact⟨by rw[HD.out];rfl,HB0.out _⟩
 · have HD:Hid (hostB x=hanB x):=by show hostB x=_;simp[hostB,hanB,h]
   have b:(x.1 != 1)=true:=by simpa using h
   clear h;generalize hostB x=gd at*;generalize hanB x=ge at*;generalize x.1=q1 at*;generalize x.2=q2 at*
   go_enter Tryz.func161,Tryz.ntmps161
   go_wp2_with (first|(go_at_call 101;refine(HC.out _).mono ?_;rintro e w1 ⟨rfl,hb⟩;have HB:=qBK ((HB0.out _).trans (hb.mono (by simp)));clear hb))
   go_ret;exact⟨by rw[HD.out];rfl,HB.out⟩
theorem qFC (x:Imp) (w:World) (cs:List Value) (hr:impL.R (·<w.heap.size) w cs x):Calls Tryz.prog 106 #[vAgg cs] w (Tells (badImp x) w):=by
 obtain⟨p0,rfl,i1,i2,⟨A4,d4,e4,l4,m4,s4⟩⟩:=hr;simp only[List.cons.injEq,and_true] at e4;subst e4
 show Calls Tryz.prog 106 #[.agg #[.slice A4 x.args.length d4,.int .i64 x.ret.1,.int .i64 x.ret.2]] w (Tells (badImp x) w)
 obtain⟨n,hn⟩:∃n,x.args.length=n:=⟨_,rfl⟩;have hn2:n≤9223372036854775807:=by unfold maxLen at m4;omega
 have T0:Hid (∀w1,Below w.heap.size w w1→Calls Tryz.prog 100 #[.slice A4 n d4,.func (.func 161) #[] #[]] w1 (Tells (x.args.any fun t=> !hostB t) w1)):=fun w1 hb=>
  qHh A4 n d4 x.args (fun t=> !hostB t) w1 hn ((s4.keep fun b hb1=>hb.block b hb1).wide fun b hb1=>qBN hb1 hb.size) hn2 fun w2 cs y _ _ hr=>qGS y w2 cs hr
 have T1:Hid (∀w1,Calls Tryz.prog 161 #[.agg #[.int .i64 x.ret.1,.int .i64 x.ret.2]] w1 (Tells (!hostB x.ret) w1)):=fun w1=>qGS x.ret w1 _ ⟨rfl,i1,i2⟩;have HO:Hid (badImp x=((x.args.any fun t=> !hostB t) || !hostB x.ret)):=rfl;rw[hn];clear hn l4 m4 s4 i1 i2;generalize badImp x=gd at*;generalize (x.args.any fun t=> !hostB t)=b1 at*;generalize (!hostB x.ret)=b2 at*;generalize x.ret.1=k1 at*;generalize x.ret.2=k2 at*;have HB0:Hid (Below w.heap.size w (w.alloc (.cells #[.slice A4 n d4,.int .i64 k1,.int .i64 k2] 75))):=(qBO _ _).alloc (qBL _) _;have HX1:Hid (∀w1,Below (w.alloc (.cells #[.slice A4 n d4,.int .i64 k1,.int .i64 k2] 75)).heap.size (w.alloc (.cells #[.slice A4 n d4,.int .i64 k1,.int .i64 k2] 75)) w1→w1.cell? ⟨w.heap.size,1,none⟩=some (.int .i64 k1)∧w1.cell? ⟨w.heap.size,2,none⟩=some (.int .i64 k2)):=fun w1 h1=>
  ⟨(h1.cell (p:=⟨w.heap.size,1,none⟩) (by simp)).trans zi,(h1.cell (p:=⟨w.heap.size,2,none⟩) (by simp)).trans zi⟩
 cases b1
 all_goals
  go_enter Tryz.func106,Tryz.ntmps106
  go_wp2_with (first
   |(go_at_call 100
     refine(T0.out _ HB0.out).mono ?_;rintro e w1 ⟨rfl,hb1⟩;have HB1:=qBK (HB0.out.trans (hb1.mono HB0.out.size));obtain⟨y1,y2⟩:=HX1.out w1 hb1;clear hb1)
   |(go_at_call 161
     refine(T1.out _).mono ?_;rintro e w2 ⟨rfl,hb2⟩;refine jl ?_;intro HB2;clear hb2))
  go_ret
 · exact⟨by rw[HO.out];rfl,HB2.out⟩
 · exact⟨by rw[HO.out];rfl,HB1.out⟩
end Go.Proofs.YtgdbhanhmenmfaaGreat
