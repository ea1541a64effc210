/-
Gh0 Ixhan Ixwrg Sc1 Ixmis Sc2 Sc3 Ixbfn Ixbim Sc4 Sc5
-/
import Derived.Test.YtconajaecpgjgaaGreatT01
import Derived.Test.YtconajaecpgjgaaGreatT02
import Derived.Test.YtconajaecpgjgaaGreatT06
import Derived.BigQuiet
import Derived.Deep.RegionWith
import Derived.Laws.EntriesVeiled
set_option linter.unusedSimpArgs false
set_option linter.unusedVariables false
set_option maxRecDepth 100000
set_option maxHeartbeats 4000000
namespace Go.Proofs.YtconajaecpgjgaaGreat
open Go.RowKit
theorem qW {P:Prop} (h:P:=by
 clear h0 h1 h2 h3 h4 g0 g1 g2 hR
 go_enter Tryz.func110,Tryz.ntmps110
 go_wp2_with fail
 go_ret
 exact⟨by rw[HN.out,←dge];rfl,HBel.out⟩):P:=h
theorem ql {P:Prop} (h:P:=by
 obtain rfl:k=n:=by omega
 go_wp2_with fail
 go_ret
 exact⟨_,rfl,by rw[qCq HA.out HL.out];rfl,HB.out⟩):P:=h
theorem q7 {P:Prop} (h:P:=by
 go_wp2_with fail
 go_quiet (fail)
 go_wp2_with fail
 go_ret
 exact⟨by rw[HN.out];rfl,qCc HBel.out _ HBel.out.size⟩):P:=h
theorem zV {P:Prop} (h:P:=by
 generalize r.length=rl at*
 have hk0:0≤(k:Int):=by omega
 clear h0 h1 h2 h3 h4 g0 g1 g2 hR hr hc
 go_enter Tryz.func110,Tryz.ntmps110
 go_wp2_with fail
 go_quiet (fail)
 go_wp2_with fail
 go_ret
 exact⟨by show Ending.returned (Value.bool (decide (n0≤k) || decide ((rl:Int)≤b)))=_;rw[HN.out,←dge,decide_eq_false (show ¬n0≤k by omega)];rfl,qCc HBel.out _ HBel.out.size⟩):P:=h
theorem zZ {P:Prop} (h:P:=by
 go_ret
 exact⟨_,rfl,by rw[E.out];simp,Hb2.out⟩):P:=h
theorem jm {P:Prop} (h:P:=by
 have hge:(n0:Int)≤a:=by omega
 have hd:decide (a<(n0:Int))=false:=by simp;omega
 clear h0 h1 h2 h3 h4 g0 g1 g2 hR
 go_enter Tryz.func110,Tryz.ntmps110
 exact q7):P:=h
def C4 (b:Nat) (v0 v1 v2 v3:Value) (w:World):Prop:=w.cell? ⟨b,0,none⟩=some v0∧w.cell? ⟨b,1,none⟩=some v1∧w.cell? ⟨b,2,none⟩=some v2∧w.cell? ⟨b,3,none⟩=some v3
theorem C4.below {b B:Nat} {v0 v1 v2 v3:Value} {w w':World} (h:C4 b v0 v1 v2 v3 w) (hb:Below B w w') (hB:b<B):C4 b v0 v1 v2 v3 w':=by
 have e:∀i u,w.cell? ⟨b,i,none⟩=some u→w'.cell? ⟨b,i,none⟩=some u:=fun i u hu=>(hb.cell (p:=⟨b,i,none⟩) hB).trans hu
 exact⟨e _ _ h.1,e _ _ h.2.1,e _ _ h.2.2.1,e _ _ h.2.2.2⟩
def C7 (b:Nat) (v0 v1 v2 v3 v4 v5 v6:Value) (w:World):Prop:=w.cell? ⟨b,0,none⟩=some v0∧w.cell? ⟨b,1,none⟩=some v1∧w.cell? ⟨b,2,none⟩=some v2∧w.cell? ⟨b,3,none⟩=some v3∧w.cell? ⟨b,4,none⟩=some v4∧w.cell? ⟨b,5,none⟩=some v5∧w.cell? ⟨b,6,none⟩=some v6
theorem C7.below {b B:Nat} {v0 v1 v2 v3 v4 v5 v6:Value} {w w':World} (h:C7 b v0 v1 v2 v3 v4 v5 v6 w) (hb:Below B w w') (hB:b<B):C7 b v0 v1 v2 v3 v4 v5 v6 w':=by
 have e:∀i u,w.cell? ⟨b,i,none⟩=some u→w'.cell? ⟨b,i,none⟩=some u:=fun i u hu=>(hb.cell (p:=⟨b,i,none⟩) hB).trans hu
 exact⟨e _ _ h.1,e _ _ h.2.1,e _ _ h.2.2.1,e _ _ h.2.2.2.1,e _ _ h.2.2.2.2.1,e _ _ h.2.2.2.2.2.1,e _ _ h.2.2.2.2.2.2⟩
theorem qHj (A:Option Addr) (n c:Nat) (xs:List Typ) (g:Typ→Bool) (w:World) (hl:xs.length=n) (h:Sq typL (·<w.heap.size) w A xs) (hn2:n≤9223372036854775807)
 (hG:∀(w1:World) (cs:List Value) (x:Typ),Below w.heap.size w w1→x∈xs→typL.R (·<w1.heap.size) w1 cs x→Calls Tryz.prog 75 #[vAgg cs] w1 (Tells (g x) w1)):
 Calls Tryz.prog 108 #[.slice A n c,.func (.func 75) #[] #[]] w fun e w'=>∃k:Int,e= .returned (.int .i64 k)∧decide (0≤k)=xs.any g∧Below w.heap.size w w':=by
 have HL:=qAZ hl
 have HS:=qAZ h
 have HP0:=qAZ hG
 clear hl h hG
 go_enter Tryz.func108,Tryz.ntmps108
 go_wp2_with fail
 go_loopw [8] (fun i wr=>∃k:Nat,k≤n∧i= .int .i64 (k:Nat)∧(xs.take k).any g=false∧Below w.heap.size w wr) (fun i _=>n-(intOf i).toNat)
 case atStart=>exact⟨0,qAs _,rfl,by simp,qAe _ _⟩
 case round=>
  obtain⟨k,hk,rfl,hall,hbel⟩:=hrel
  have HA:=qAZ hall
  have HB:=qAZ hbel
  have hs:=hbel.size
  clear hall hbel
  by_cases hlt:k<n
  · skip
    obtain⟨x,hx⟩:∃x,xs[k]? =some x:=⟨xs[k]'qd,qAa _⟩
    have hmem:x∈xs:=qAk hx
    obtain⟨a,cs,rfl,hab,hc,hr⟩:=HS.out.at hx
    have HX:=qAZ hx
    clear hx
    have HR:=qAZ hr
    obtain⟨rfl,-,-⟩:=hr
    have c0:=(HB.out.cell (p:=a.add (k*2)) qE).trans (hc 0 _ rfl)
    have c1:=(HB.out.cell (p:=a.add (k*2+1)) qE).trans (hc 1 _ rfl)
    rw[qAl a (k*2) 1 (by omega)] at c1
    have HP:Hid (∀w1,Below w.heap.size w w1→Calls Tryz.prog 75 #[.agg #[.int .i64 x.1,.int .i64 x.2]] w1 (Tells (g x) w1)):=fun w1 hb=>HP0.out w1 [.int .i64 x.1,.int .i64 x.2] x hb hmem (typL.wide (typL.keep HR.out fun b hb1=>hb.block b hb1) fun b hb1=>qAg hb1 hb.size)
    clear hc
    have hk0:0≤(k:Int):=by omega
    cases hg:g x
    · rw[hg] at HP
      have HG:=qAZ hg
      clear hg
      go_wp2_with (first
       |(go_at_call 75
         refine(HP.out _ HB.out).mono ?_
         rintro e w2 ⟨rfl,hb2⟩
         have Hb2:=qAZ (HB.out.trans (hb2.mono hs))
         clear hb2))
      exact qo
    · rw[hg] at HP
      have e:xs.any g=true:=qBx hmem hg
      have E:=qAZ e
      clear e hg
      go_wp2_with (first
       |(go_at_call 75
         refine(HP.out _ HB.out).mono ?_
         rintro e w2 ⟨rfl,hb2⟩
         have Hb2:=qAZ (HB.out.trans (hb2.mono hs))
         clear hb2))
      exact zZ
  · exact ql
theorem qFE (A:Option Addr) (n c:Nat) (xs:List Typ) (g:Typ→Bool) (w:World) (hl:xs.length=n) (h:Sq typL (·<w.heap.size) w A xs) (hn2:n≤9223372036854775807)
 (hG:∀(w1:World) (cs:List Value) (x:Typ),Below w.heap.size w w1→x∈xs→typL.R (·<w1.heap.size) w1 cs x→Calls Tryz.prog 75 #[vAgg cs] w1 (Tells (g x) w1)):
 Calls Tryz.prog 74 #[.slice A n c,.func (.func 75) #[] #[]] w (Tells (xs.any g) w):=by
 have HC:=qAZ (qHj A n c xs g w hl h hn2 hG)
 clear hl h hG
 generalize xs.any g=ab at*
 go_enter Tryz.func74,Tryz.ntmps74
 go_wp2_with (first|(go_at_call 108;refine HC.out.mono ?_;rintro e w1 ⟨k,rfl,hk,hb⟩;have HB:=qAZ hb;have HK:=qAZ hk;clear hb hk))
 go_ret
 exact⟨by rw[←HK.out];rfl,HB.out⟩
theorem qHd (A:Option Addr) (n c:Nat) (xs:List Typ) (g:Typ→Bool) (w:World) (hl:xs.length=n) (h:Sq typL (·<w.heap.size) w A xs) (hn2:n≤9223372036854775807)
 (hG:∀(w1:World) (cs:List Value) (x:Typ),Below w.heap.size w w1→x∈xs→typL.R (·<w1.heap.size) w1 cs x→Calls Tryz.prog 113 #[vAgg cs] w1 (Tells (g x) w1)):
 Calls Tryz.prog 108 #[.slice A n c,.func (.func 113) #[] #[]] w fun e w'=>∃k:Int,e= .returned (.int .i64 k)∧decide (0≤k)=xs.any g∧Below w.heap.size w w':=by
 have HL:=qAZ hl
 have HS:=qAZ h
 have HP0:=qAZ hG
 clear hl h hG
 go_enter Tryz.func108,Tryz.ntmps108
 go_wp2_with fail
 go_loopw [8] (fun i wr=>∃k:Nat,k≤n∧i= .int .i64 (k:Nat)∧(xs.take k).any g=false∧Below w.heap.size w wr) (fun i _=>n-(intOf i).toNat)
 case atStart=>exact⟨0,qAs _,rfl,by simp,qAe _ _⟩
 case round=>
  obtain⟨k,hk,rfl,hall,hbel⟩:=hrel
  have HA:=qAZ hall
  have HB:=qAZ hbel
  have hs:=hbel.size
  clear hall hbel
  by_cases hlt:k<n
  · skip
    obtain⟨x,hx⟩:∃x,xs[k]? =some x:=⟨xs[k]'qd,qAa _⟩
    have hmem:x∈xs:=qAk hx
    obtain⟨a,cs,rfl,hab,hc,hr⟩:=HS.out.at hx
    have HX:=qAZ hx
    clear hx
    have HR:=qAZ hr
    obtain⟨rfl,-,-⟩:=hr
    have c0:=(HB.out.cell (p:=a.add (k*2)) qE).trans (hc 0 _ rfl)
    have c1:=(HB.out.cell (p:=a.add (k*2+1)) qE).trans (hc 1 _ rfl)
    rw[qAl a (k*2) 1 (by omega)] at c1
    have HP:Hid (∀w1,Below w.heap.size w w1→Calls Tryz.prog 113 #[.agg #[.int .i64 x.1,.int .i64 x.2]] w1 (Tells (g x) w1)):=fun w1 hb=>HP0.out w1 [.int .i64 x.1,.int .i64 x.2] x hb hmem (typL.wide (typL.keep HR.out fun b hb1=>hb.block b hb1) fun b hb1=>qAg hb1 hb.size)
    clear hc
    have hk0:0≤(k:Int):=by omega
    cases hg:g x
    · rw[hg] at HP
      have HG:=qAZ hg
      clear hg
      go_wp2_with (first
       |(go_at_call 113
         refine(HP.out _ HB.out).mono ?_
         rintro e w2 ⟨rfl,hb2⟩
         have Hb2:=qAZ (HB.out.trans (hb2.mono hs))
         clear hb2))
      exact qo
    · rw[hg] at HP
      have e:xs.any g=true:=qBx hmem hg
      have E:=qAZ e
      clear e hg
      go_wp2_with (first
       |(go_at_call 113
         refine(HP.out _ HB.out).mono ?_
         rintro e w2 ⟨rfl,hb2⟩
         have Hb2:=qAZ (HB.out.trans (hb2.mono hs))
         clear hb2))
      exact zZ
  · exact ql
theorem qFA (A:Option Addr) (n c:Nat) (xs:List Typ) (g:Typ→Bool) (w:World) (hl:xs.length=n) (h:Sq typL (·<w.heap.size) w A xs) (hn2:n≤9223372036854775807)
 (hG:∀(w1:World) (cs:List Value) (x:Typ),Below w.heap.size w w1→x∈xs→typL.R (·<w1.heap.size) w1 cs x→Calls Tryz.prog 113 #[vAgg cs] w1 (Tells (g x) w1)):
 Calls Tryz.prog 74 #[.slice A n c,.func (.func 113) #[] #[]] w (Tells (xs.any g) w):=by
 have HC:=qAZ (qHd A n c xs g w hl h hn2 hG)
 clear hl h hG
 generalize xs.any g=ab at*
 go_enter Tryz.func74,Tryz.ntmps74
 go_wp2_with (first|(go_at_call 108;refine HC.out.mono ?_;rintro e w1 ⟨k,rfl,hk,hb⟩;have HB:=qAZ hb;have HK:=qAZ hk;clear hb hk))
 go_ret
 exact⟨by rw[←HK.out];rfl,HB.out⟩
theorem qEd (x:Typ) (w:World) (cs:List Value) (hr:typL.R (·<w.heap.size) w cs x):Calls Tryz.prog 75 #[vAgg cs] w (Tells (hanB x) w):=by
 obtain⟨rfl,-,-⟩:=hr
 show Calls Tryz.prog 75 #[.agg #[.int .i64 x.1,.int .i64 x.2]] w (Tells (hanB x) w)
 have HD:Hid (hanB x=(x.1==5)):=by show hanB x=_;rw[Bool.eq_iff_iff];simp[hanB]
 generalize hanB x=gd at*
 generalize x.1=q1 at*
 generalize x.2=q2 at*
 go_enter Tryz.func75,Tryz.ntmps75
 go_wp2_with fail
 go_ret
 exact⟨by rw[HD.out];rfl,(qAe _ _).alloc (qAf _) _⟩
theorem qEV (x:Typ) (w:World) (cs:List Value) (hr:typL.R (·<w.heap.size) w cs x):Calls Tryz.prog 113 #[vAgg cs] w (Tells (!hostB x) w):=by
 have HC:Hid (∀w1,Calls Tryz.prog 75 #[.agg #[.int .i64 x.1,.int .i64 x.2]] w1 (Tells (hanB x) w1)):=fun w1=>qEd x w1 _ ⟨rfl,hr.2⟩
 obtain⟨rfl,-,-⟩:=hr
 show Calls Tryz.prog 113 #[.agg #[.int .i64 x.1,.int .i64 x.2]] w (Tells (!hostB x) w)
 have HB0:Hid (∀o:Obj,Below w.heap.size w (w.alloc o)):=fun o=>(qAe _ _).alloc (qAf _) _
 by_cases h:x.1=1
 · have HD:Hid (hostB x=true):=by show hostB x=_;simp[hostB,h]
   have b:(x.1 != 1)=false:=by simpa using h
   clear h
   generalize hostB x=gd at*
   generalize x.1=q1 at*
   generalize x.2=q2 at*
   go_enter Tryz.func113,Tryz.ntmps113
   go_wp2_with fail
   go_ret
   exact⟨by rw[HD.out];rfl,HB0.out _⟩
 · have HD:Hid (hostB x=hanB x):=by show hostB x=_;simp[hostB,hanB,h]
   have b:(x.1 != 1)=true:=by simpa using h
   clear h
   generalize hostB x=gd at*
   generalize hanB x=ge at*
   generalize x.1=q1 at*
   generalize x.2=q2 at*
   go_enter Tryz.func113,Tryz.ntmps113
   go_wp2_with (first|(go_at_call 75;refine(HC.out _).mono ?_;rintro e w1 ⟨rfl,hb⟩;have HB:=qAZ ((HB0.out _).trans (hb.mono (by simp)));clear hb))
   go_ret
   exact⟨by rw[HD.out];rfl,HB.out⟩
theorem qDf (x:Imp) (w:World) (cs:List Value) (hr:impL.R (·<w.heap.size) w cs x):Calls Tryz.prog 80 #[vAgg cs] w (Tells (badImp x) w):=by
 obtain⟨p0,rfl,i1,i2,⟨A4,d4,e4,l4,m4,s4⟩⟩:=hr
 simp only[List.cons.injEq,and_true] at e4
 subst e4
 show Calls Tryz.prog 80 #[.agg #[.slice A4 x.args.length d4,.int .i64 x.ret.1,.int .i64 x.ret.2]] w (Tells (badImp x) w)
 obtain⟨n,hn⟩:∃n,x.args.length=n:=⟨_,rfl⟩
 have hn2:n≤9223372036854775807:=by unfold maxLen at m4;omega
 have T0:Hid (∀w1,Below w.heap.size w w1→Calls Tryz.prog 74 #[.slice A4 n d4,.func (.func 113) #[] #[]] w1 (Tells (x.args.any fun t=> !hostB t) w1)):=fun w1 hb=>
  qFA A4 n d4 x.args (fun t=> !hostB t) w1 hn ((s4.keep fun b hb1=>hb.block b hb1).wide fun b hb1=>qAg hb1 hb.size) hn2 fun w2 cs y _ _ hr=>qEV y w2 cs hr
 have T1:Hid (∀w1,Calls Tryz.prog 113 #[.agg #[.int .i64 x.ret.1,.int .i64 x.ret.2]] w1 (Tells (!hostB x.ret) w1)):=fun w1=>qEV x.ret w1 _ ⟨rfl,i1,i2⟩
 have HO:Hid (badImp x=((x.args.any fun t=> !hostB t) || !hostB x.ret)):=rfl
 rw[hn]
 clear hn l4 m4 s4 i1 i2
 generalize badImp x=gd at*
 generalize (x.args.any fun t=> !hostB t)=b1 at*
 generalize (!hostB x.ret)=b2 at*
 generalize x.ret.1=k1 at*
 generalize x.ret.2=k2 at*
 have HB0:Hid (Below w.heap.size w (w.alloc (.cells #[.slice A4 n d4,.int .i64 k1,.int .i64 k2] 63))):=(qAe _ _).alloc (qAf _) _
 have HX1:Hid (∀w1,Below (w.alloc (.cells #[.slice A4 n d4,.int .i64 k1,.int .i64 k2] 63)).heap.size (w.alloc (.cells #[.slice A4 n d4,.int .i64 k1,.int .i64 k2] 63)) w1→w1.cell? ⟨w.heap.size,1,none⟩=some (.int .i64 k1)∧w1.cell? ⟨w.heap.size,2,none⟩=some (.int .i64 k2)):=fun w1 h1=>
  ⟨(h1.cell (p:=⟨w.heap.size,1,none⟩) (by simp)).trans jw,(h1.cell (p:=⟨w.heap.size,2,none⟩) (by simp)).trans jw⟩
 cases b1
 all_goals
  go_enter Tryz.func80,Tryz.ntmps80
  go_wp2_with (first
   |(go_at_call 74
     refine(T0.out _ HB0.out).mono ?_
     rintro e w1 ⟨rfl,hb1⟩
     have HB1:=qAZ (HB0.out.trans (hb1.mono HB0.out.size))
     obtain⟨y1,y2⟩:=HX1.out w1 hb1
     clear hb1)
   |(go_at_call 113
     refine(T1.out _).mono ?_
     rintro e w2 ⟨rfl,hb2⟩
     have HB2:=qAZ (HB1.out.trans (hb2.mono HB1.out.size))
     clear hb2))
  go_ret
 · exact⟨by rw[HO.out];rfl,HB2.out⟩
 · exact⟨by rw[HO.out];rfl,HB1.out⟩
theorem qHh (A:Option Addr) (n c:Nat) (xs:List Ins) (g:Ins→Bool) (p7:Addr) (p8:Addr) (w:World) (hl:xs.length=n) (h:Sq insL (·<w.heap.size) w A xs) (hn2:n≤9223372036854775807)
 (hG:∀(w1:World) (cs:List Value) (x:Ins),Below w.heap.size w w1→x∈xs→insL.R (·<w1.heap.size) w1 cs x→Calls Tryz.prog 110 #[vAgg cs,.pointer (some p7),.pointer (some p8)] w1 (Tells (g x) w1)):
 Calls Tryz.prog 109 #[.slice A n c,.func (.func 110) #[] #[.pointer (some p7),.pointer (some p8)]] w fun e w'=>∃k:Int,e= .returned (.int .i64 k)∧decide (0≤k)=xs.any g∧Below w.heap.size w w':=by
 have HL:=qAZ hl
 have HS:=qAZ h
 have HP0:=qAZ hG
 clear hl h hG
 go_enter Tryz.func109,Tryz.ntmps109
 go_wp2_with fail
 go_loopw [8] (fun i wr=>∃k:Nat,k≤n∧i= .int .i64 (k:Nat)∧(xs.take k).any g=false∧Below w.heap.size w wr) (fun i _=>n-(intOf i).toNat)
 case atStart=>exact⟨0,qAs _,rfl,by simp,qAe _ _⟩
 case round=>
  obtain⟨k,hk,rfl,hall,hbel⟩:=hrel
  have HA:=qAZ hall
  have HB:=qAZ hbel
  have hs:=hbel.size
  clear hall hbel
  by_cases hlt:k<n
  · skip
    obtain⟨x,hx⟩:∃x,xs[k]? =some x:=⟨xs[k]'qd,qAa _⟩
    have hmem:x∈xs:=qAk hx
    obtain⟨a,cs,rfl,hab,hc,hr⟩:=HS.out.at hx
    have HX:=qAZ hx
    clear hx
    have HR:=qAZ hr
    obtain⟨rfl,-,-,-⟩:=hr
    have c0:=(HB.out.cell (p:=a.add (k*3)) qE).trans (hc 0 _ rfl)
    have c1:=(HB.out.cell (p:=a.add (k*3+1)) qE).trans (hc 1 _ rfl)
    rw[qAl a (k*3) 1 (by omega)] at c1
    have c2:=(HB.out.cell (p:=a.add (k*3+2)) qE).trans (hc 2 _ rfl)
    rw[qAl a (k*3) 2 (by omega)] at c2
    have HP:Hid (∀w1,Below w.heap.size w w1→Calls Tryz.prog 110 #[.agg #[.int .i64 x.1,.int .i64 x.2.1,.int .i64 x.2.2],.pointer (some p7),.pointer (some p8)] w1 (Tells (g x) w1)):=fun w1 hb=>HP0.out w1 [.int .i64 x.1,.int .i64 x.2.1,.int .i64 x.2.2] x hb hmem (insL.wide (insL.keep HR.out fun b hb1=>hb.block b hb1) fun b hb1=>qAg hb1 hb.size)
    clear hc
    have hk0:0≤(k:Int):=by omega
    cases hg:g x
    · rw[hg] at HP
      have HG:=qAZ hg
      clear hg
      go_wp2_with (first
       |(go_at_call 110
         refine(HP.out _ HB.out).mono ?_
         rintro e w2 ⟨rfl,hb2⟩
         have Hb2:=qAZ (HB.out.trans (hb2.mono hs))
         clear hb2))
      exact qo
    · rw[hg] at HP
      have e:xs.any g=true:=qBx hmem hg
      have E:=qAZ e
      clear e hg
      go_wp2_with (first
       |(go_at_call 110
         refine(HP.out _ HB.out).mono ?_
         rintro e w2 ⟨rfl,hb2⟩
         have Hb2:=qAZ (HB.out.trans (hb2.mono hs))
         clear hb2))
      exact zZ
  · exact ql
theorem qFC (A:Option Addr) (n c:Nat) (xs:List Ins) (g:Ins→Bool) (p7:Addr) (p8:Addr) (w:World) (hl:xs.length=n) (h:Sq insL (·<w.heap.size) w A xs) (hn2:n≤9223372036854775807)
 (hG:∀(w1:World) (cs:List Value) (x:Ins),Below w.heap.size w w1→x∈xs→insL.R (·<w1.heap.size) w1 cs x→Calls Tryz.prog 110 #[vAgg cs,.pointer (some p7),.pointer (some p8)] w1 (Tells (g x) w1)):
 Calls Tryz.prog 76 #[.slice A n c,.func (.func 110) #[] #[.pointer (some p7),.pointer (some p8)]] w (Tells (xs.any g) w):=by
 have HC:=qAZ (qHh A n c xs g p7 p8 w hl h hn2 hG)
 clear hl h hG
 generalize xs.any g=ab at*
 go_enter Tryz.func76,Tryz.ntmps76
 go_wp2_with (first|(go_at_call 109;refine HC.out.mono ?_;rintro e w1 ⟨k,rfl,hk,hb⟩;have HB:=qAZ hb;have HK:=qAZ hk;clear hb hk))
 go_ret
 exact⟨by rw[←HK.out];rfl,HB.out⟩
theorem qE3 (A0 A1 A2 A3 A4 P0 P1 P2:Option Addr) (n0 n1 n2 n3 n4 d0 d1 d2 d3 d4 u0 u1 u2 c0 c1 c2:Nat) (r1 r2:Int) (m:Mod) (f:Fn) (o a b:Int) (w:World) (B G:Nat) (h0:m.recs.length=n0) (h1:m.funcs.length=n1) (h2:m.imps.length=n2) (h3:m.ints.length=n3) (h4:m.texts.length=n4) (g0:f.args.length=u0) (g1:f.locs.length=u1) (g2:f.code.length=u2) (hn0:n0≤9223372036854775807) (hu0:u0≤1000) (hu1:u1≤1000) (ha:0≤a∧a≤255) (hb:0≤b∧b≤255) (hR:Sq tysL (·<w.heap.size) w A0 m.recs) (hC:C5 B (.slice A0 n0 d0) (.slice A1 n1 d1) (.slice A2 n2 d2) (.slice A3 n3 d3) (.slice A4 n4 d4) w) (hD:C5 G (.slice P0 u0 c0) (.int .i64 r1) (.int .i64 r2) (.slice P1 u1 c1) (.slice P2 u2 c2) w):
 Calls Tryz.prog 110 #[.agg #[.int .i64 o,.int .i64 a,.int .i64 b],.pointer (some ⟨B,0,none⟩),.pointer (some ⟨G,0,none⟩)] w (Tells (!namedB m f (o,a,b)) w):=by
 have HBel:Hid (Below w.heap.size w (w.alloc (.cells #[.int .i64 o,.int .i64 a,.int .i64 b] 65))):=(qAe _ _).alloc (qAf _) _
 have hBl:=qAn w _ hC.1
 have hGl:=qAn w _ hD.1
 simp only at hBl hGl
 have hBn:B≠w.heap.size:=by omega
 have hGn:G≠w.heap.size:=by omega
 obtain⟨x0,x1,x2,x3,x4⟩:=hC
 obtain⟨y0,y1,y2,y3,y4⟩:=hD
 by_cases e0:o=0
 · subst e0
   have HN:Hid (namedB m f (0,a,b)=decide (a<(n3:Int))):=by show namedB _ _ _=_;simp[namedB,h0,h1,h2,h3,h4,g0,g1,g2]
   generalize namedB m f (0,a,b)=nb at*
   exact qW
 by_cases e1:o=1
 · subst e1
   have HN:Hid (namedB m f (1,a,b)=decide (a<(n4:Int))):=by show namedB _ _ _=_;simp[namedB,h0,h1,h2,h3,h4,g0,g1,g2]
   generalize namedB m f (1,a,b)=nb at*
   exact qW
 by_cases e3:o=3
 · subst e3
   have HN:Hid (namedB m f (3,a,b)=decide (a<(u0:Int)+(u1:Int))):=by show namedB _ _ _=_;simp[namedB,h0,h1,h2,h3,h4,g0,g1,g2]
   generalize namedB m f (3,a,b)=nb at*
   exact qW
 by_cases e4:o=4
 · subst e4
   have HN:Hid (namedB m f (4,a,b)=decide (a<(u0:Int)+(u1:Int))):=by show namedB _ _ _=_;simp[namedB,h0,h1,h2,h3,h4,g0,g1,g2]
   generalize namedB m f (4,a,b)=nb at*
   exact qW
 by_cases e23:o=23
 · subst e23
   have HN:Hid (namedB m f (23,a,b)=decide (a<(u2:Int))):=by show namedB _ _ _=_;simp[namedB,h0,h1,h2,h3,h4,g0,g1,g2]
   generalize namedB m f (23,a,b)=nb at*
   exact qW
 by_cases e24:o=24
 · subst e24
   have HN:Hid (namedB m f (24,a,b)=decide (a<(u2:Int))):=by show namedB _ _ _=_;simp[namedB,h0,h1,h2,h3,h4,g0,g1,g2]
   generalize namedB m f (24,a,b)=nb at*
   exact qW
 by_cases e25:o=25
 · subst e25
   have HN:Hid (namedB m f (25,a,b)=decide (a<(n1:Int))):=by show namedB _ _ _=_;simp[namedB,h0,h1,h2,h3,h4,g0,g1,g2]
   generalize namedB m f (25,a,b)=nb at*
   exact qW
 by_cases e27:o=27
 · subst e27
   have HN:Hid (namedB m f (27,a,b)=decide (a<(n2:Int))):=by show namedB _ _ _=_;simp[namedB,h0,h1,h2,h3,h4,g0,g1,g2]
   generalize namedB m f (27,a,b)=nb at*
   exact qW
 by_cases e28:o=28
 · subst e28
   have HN:Hid (namedB m f (28,a,b)=decide (a<(n0:Int))):=by show namedB _ _ _=_;simp[namedB,h0,h1,h2,h3,h4,g0,g1,g2]
   generalize namedB m f (28,a,b)=nb at*
   exact qW
 by_cases e29:o=29
 · subst e29
   by_cases hlt:a<(n0:Int)
   · obtain⟨k,rfl⟩:∃k:Nat,a=(k:Int):=⟨a.toNat,by omega⟩
     have hk:k<n0:=by omega
     obtain⟨r,hr⟩:∃r,m.recs[k]? =some r:=⟨m.recs[k]'(by rw[h0];exact hk),qAa _⟩
     have HN:Hid (namedB m f (29,(k:Int),b)=decide (b<(r.length:Int))):=by show namedB _ _ _=_;simp[namedB,hr]
     obtain⟨a0,cs,ea,hab,hc,hRr⟩:=hR.at hr
     subst ea
     obtain⟨Q0,q0,rfl,-,-,-⟩:=hRr
     have cr:=qBC (K:=tysL.k) rfl (hc 0 _ rfl)
     have cr2:∀o:Obj,(w.alloc o).cell? (a0.add k)=_:=fun o=>(((qAe _ w).alloc (qAf _) o).cell (p:=a0.add k) qE).trans cr
     generalize namedB m f (29,(k:Int),b)=nb at*
     exact zV
   · have HN:Hid (namedB m f (29,a,b)=false):=by
      show namedB _ _ _=_
      have hz:m.recs[a.toNat]? =none:=List.getElem?_eq_none (by rw[h0];omega)
      simp[namedB,hz]
     generalize namedB m f (29,a,b)=nb at*
     exact jm
 by_cases e30:o=30
 · subst e30
   by_cases hlt:a<(n0:Int)
   · obtain⟨k,rfl⟩:∃k:Nat,a=(k:Int):=⟨a.toNat,by omega⟩
     have hk:k<n0:=by omega
     obtain⟨r,hr⟩:∃r,m.recs[k]? =some r:=⟨m.recs[k]'(by rw[h0];exact hk),qAa _⟩
     have HN:Hid (namedB m f (30,(k:Int),b)=decide (b<(r.length:Int))):=by show namedB _ _ _=_;simp[namedB,hr]
     obtain⟨a0,cs,ea,hab,hc,hRr⟩:=hR.at hr
     subst ea
     obtain⟨Q0,q0,rfl,-,-,-⟩:=hRr
     have cr:=qBC (K:=tysL.k) rfl (hc 0 _ rfl)
     have cr2:∀o:Obj,(w.alloc o).cell? (a0.add k)=_:=fun o=>(((qAe _ w).alloc (qAf _) o).cell (p:=a0.add k) qE).trans cr
     generalize namedB m f (30,(k:Int),b)=nb at*
     exact zV
   · have HN:Hid (namedB m f (30,a,b)=false):=by
      show namedB _ _ _=_
      have hz:m.recs[a.toNat]? =none:=List.getElem?_eq_none (by rw[h0];omega)
      simp[namedB,hz]
     generalize namedB m f (30,a,b)=nb at*
     exact jm
 have HN:Hid (namedB m f (o,a,b)=true):=by show namedB _ _ _=_;simp[namedB,e0,e1,e3,e4,e23,e24,e25,e27,e28,e29,e30]
 have b0:(o==0)=false:=by simpa using e0
 have b1:(o==1)=false:=by simpa using e1
 have b3:(o==3)=false:=by simpa using e3
 have b4:(o==4)=false:=by simpa using e4
 have b23:(o==23)=false:=by simpa using e23
 have b24:(o==24)=false:=by simpa using e24
 have b25:(o==25)=false:=by simpa using e25
 have b27:(o==27)=false:=by simpa using e27
 have b28:(o==28)=false:=by simpa using e28
 have b29:(o==29)=false:=by simpa using e29
 have b30:(o==30)=false:=by simpa using e30
 generalize namedB m f (o,a,b)=nb at*
 clear h0 h1 h2 h3 h4 g0 g1 g2 hR e0 e1 e3 e4 e23 e24 e25 e27 e28 e29 e30
 go_enter Tryz.func110,Tryz.ntmps110
 go_wp2_with fail
 go_ret
 exact⟨by rw[HN.out];rfl,HBel.out⟩
theorem qFm (v0 v1 v2 v3 v4 p0 p1 p2 p3 p4:Value) (w:World):
 Calls Tryz.prog 77 #[.agg #[v0,v1,v2,v3,v4],.agg #[p0,p1,p2,p3,p4]] w fun e w'=>
  e= .returned (.func (.func 110) #[] #[.pointer (some ⟨w.heap.size,0,none⟩),.pointer (some ⟨w.heap.size+1,0,none⟩)])∧Below w.heap.size w w'∧C5 w.heap.size v0 v1 v2 v3 v4 w'∧C5 (w.heap.size+1) p0 p1 p2 p3 p4 w':=by
 go_enter Tryz.func77,Tryz.ntmps77
 go_wp2_with fail
 go_ret
 exact⟨rfl,((qAe _ _).alloc (qAf _) _).alloc (by simp) _,by simp[C5,go_sem],by simp[C5,go_sem]⟩
theorem qGr (A0 A1 A2 A3 A4:Option Addr) (n0 n1 n2 n3 n4 d0 d1 d2 d3 d4:Nat) (m:Mod) (B:Nat) (x:Fn) (w:World) (h0:m.recs.length=n0) (h1:m.funcs.length=n1) (h2:m.imps.length=n2) (h3:m.ints.length=n3) (h4:m.texts.length=n4)
 (hn0:n0≤9223372036854775807) (hR:Sq tysL (·<w.heap.size) w A0 m.recs) (hC:C5 B (.slice A0 n0 d0) (.slice A1 n1 d1) (.slice A2 n2 d2) (.slice A3 n3 d3) (.slice A4 n4 d4) w)
 (cs:List Value) (hr:fnL.R (·<w.heap.size) w cs x) (hx:fnOk n0 x=true):
 Calls Tryz.prog 73 #[vAgg cs,.pointer (some ⟨B,0,none⟩)] w (Tells (badFn m x) w):=by
 obtain⟨z1,z2,z3,z4,-,-,-,z8⟩:=qCn hx
 obtain⟨p0,p1,p2,rfl,i1,i2,⟨P0,c0,e4,l4,m4,s4⟩,⟨P1,c1,e5,l5,m5,s5⟩,⟨P2,c2,e6,l6,m6,s6⟩⟩:=hr
 simp only[List.cons.injEq,and_true] at e4 e5 e6
 subst e4 e5 e6
 obtain⟨u0,g0⟩:∃n,x.args.length=n:=⟨_,rfl⟩
 obtain⟨u1,g1⟩:∃n,x.locs.length=n:=⟨_,rfl⟩
 obtain⟨u2,g2⟩:∃n,x.code.length=n:=⟨_,rfl⟩
 show Calls Tryz.prog 73 #[.agg #[.slice P0 x.args.length c0,.int .i64 x.ret.1,.int .i64 x.ret.2,.slice P1 x.locs.length c1,.slice P2 x.code.length c2],.pointer (some ⟨B,0,none⟩)] w (Tells (badFn m x) w)
 rw[g0,g1,g2]
 have T0:Hid (∀w1,Below w.heap.size w w1→Calls Tryz.prog 74 #[.slice P1 u1 c1,.func (.func 75) #[] #[]] w1 (Tells (x.locs.any hanB) w1)):=fun w1 hb=>
  qFE P1 u1 c1 x.locs hanB w1 g1 ((s5.keep fun b hb1=>hb.block b hb1).wide fun b hb1=>qAg hb1 hb.size) (by omega) fun w2 cs y _ _ hr=>qEd y w2 cs hr
 have T2:Hid (∀w1 (p7 p8:Nat),Below w.heap.size w w1→C5 p7 (.slice A0 n0 d0) (.slice A1 n1 d1) (.slice A2 n2 d2) (.slice A3 n3 d3) (.slice A4 n4 d4) w1→C5 p8 (.slice P0 u0 c0) (.int .i64 x.ret.1) (.int .i64 x.ret.2) (.slice P1 u1 c1) (.slice P2 u2 c2) w1→
  Calls Tryz.prog 76 #[.slice P2 u2 c2,.func (.func 110) #[] #[.pointer (some ⟨p7,0,none⟩),.pointer (some ⟨p8,0,none⟩)]] w1 (Tells (x.code.any fun i=> !namedB m x i) w1)):=fun w1 p7 p8 hb hc1 hc2=>
  qFC P2 u2 c2 x.code (fun i=> !namedB m x i) ⟨p7,0,none⟩ ⟨p8,0,none⟩ w1 g2 ((s6.keep fun b hb1=>hb.block b hb1).wide fun b hb1=>qAg hb1 hb.size) (by omega) fun w2 cs y hb2 hy hr=>by
   obtain⟨rfl,-⟩:=hr
   obtain⟨o,a,b⟩:=y
   obtain⟨o1,a1,b1,e1,e2,e3,q1,q2,q3⟩:=qBF (op:=o) (a:=a) (b:=b) (z8 _ hy)
   have hb3:Below w.heap.size w w2:=hb.trans (hb2.mono hb.size)
   exact qE3 A0 A1 A2 A3 A4 P0 P1 P2 n0 n1 n2 n3 n4 d0 d1 d2 d3 d4 u0 u1 u2 c0 c1 c2 x.ret.1 x.ret.2 m x o a b w2 p7 p8 h0 h1 h2 h3 h4 g0 g1 g2 hn0 (by omega) (by omega) (by omega) (by omega) ((hR.keep fun b hb1=>hb3.block b hb1).wide fun b hb1=>qAg hb1 hb3.size)
    (hc1.below hb2 (qAn w1 _ hc1.1)) (hc2.below hb2 (qAn w1 _ hc2.1))
 have HO:Hid (badFn m x=(x.locs.any hanB || x.code.any fun i=> !namedB m x i)):=rfl
 have HB0:Hid (Below w.heap.size w (w.alloc (.cells #[.slice P0 u0 c0,.int .i64 x.ret.1,.int .i64 x.ret.2,.slice P1 u1 c1,.slice P2 u2 c2] 61))):=(qAe _ _).alloc (qAf _) _
 have HC0:Hid (C5 B (.slice A0 n0 d0) (.slice A1 n1 d1) (.slice A2 n2 d2) (.slice A3 n3 d3) (.slice A4 n4 d4) (w.alloc (.cells #[.slice P0 u0 c0,.int .i64 x.ret.1,.int .i64 x.ret.2,.slice P1 u1 c1,.slice P2 u2 c2] 61))∧C5 w.heap.size (.slice P0 u0 c0) (.int .i64 x.ret.1) (.int .i64 x.ret.2) (.slice P1 u1 c1) (.slice P2 u2 c2) (w.alloc (.cells #[.slice P0 u0 c0,.int .i64 x.ret.1,.int .i64 x.ret.2,.slice P1 u1 c1,.slice P2 u2 c2] 61))):=
  ⟨hC.below HB0.out (qAn w _ hC.1),by simp[C5,go_sem]⟩
 have hBl:=qAn w _ hC.1
 simp only at hBl
 clear g0 g1 g2 h0 h1 h2 h3 h4 hR hC i1 i2 s4 s5 s6 l4 l5 l6 m4 m5 m6 z8 hx
 generalize badFn m x=gd at*
 generalize x.locs.any hanB=b1 at*
 generalize (x.code.any fun i=> !namedB m x i)=b2 at*
 generalize x.ret.1=k1 at*
 generalize x.ret.2=k2 at*
 go_enter Tryz.func73,Tryz.ntmps73
 go_wp2_with fail
 refine qAp fun W hW=> ?_
 rw[←hW] at HB0 HC0
 have hs:w.heap.size<W.heap.size:=by rw[hW];simp
 clear hW
 have HKK:Hid (∀w1,Below W.heap.size W w1→C5 B (.slice A0 n0 d0) (.slice A1 n1 d1) (.slice A2 n2 d2) (.slice A3 n3 d3) (.slice A4 n4 d4) w1∧C5 w.heap.size (.slice P0 u0 c0) (.int .i64 k1) (.int .i64 k2) (.slice P1 u1 c1) (.slice P2 u2 c2) w1):=fun w1 hb=>⟨HC0.out.1.below hb (by omega),HC0.out.2.below hb hs⟩
 obtain⟨⟨x0,x1,x2,x3,x4⟩,y0,y1,y2,y3,y4⟩:=HC0.out
 cases b1
 all_goals
  first|(go_region_with (first
   |(go_at_call 74
     refine(T0.out _ HB0.out.drew).mono ?_
     rintro e w1 ⟨rfl,hb1⟩
     have HX1:=qAZ (((qAe W.heap.size W).drew).trans hb1)
     have HB1:=qAZ (HB0.out.trans (HX1.out.mono HB0.out.size))
     obtain⟨⟨q0,q1,q2,q3,q4⟩,t0,t1,t2,t3,t4⟩:=HKK.out w1 HX1.out
     clear hb1)
   |(go_at_call 77
     refine(qFm _ _ _ _ _ _ _ _ _ _ _).mono ?_
     rintro e w2 ⟨rfl,hb2,hc2,hc3⟩
     have HX2:=qAZ (HX1.out.trans (hb2.mono HX1.out.size))
     have HB2:=qAZ (HB0.out.trans (HX2.out.mono HB0.out.size))
     obtain⟨⟨r0,r1,r2,r3,r4⟩,s0,s1,s2,s3,s4⟩:=HKK.out w2 HX2.out
     have HM2:=qAZ hc2
     have HM3:=qAZ hc3
     clear hb2 hc2 hc3)
   |(go_at_call 76
     refine(T2.out _ _ _ HB2.out HM2.out HM3.out).mono ?_
     rintro e w3 ⟨rfl,hb3⟩
     have HX3:=qAZ (HX2.out.trans (hb3.mono HX2.out.size))
     have HB3:=qAZ (HB0.out.trans (HX3.out.mono HB0.out.size))
     clear hb3)))|fail
 all_goals
  go_wp2_with fail
  go_ret
  first|exact⟨by rw[HO.out];rfl,HB3.out⟩|exact⟨by rw[HO.out];rfl,HB1.out⟩
theorem qHl (A:Option Addr) (n c:Nat) (xs:List Fn) (g:Fn→Bool) (p7:Addr) (w:World) (hl:xs.length=n) (h:Sq fnL (·<w.heap.size) w A xs) (hn2:n≤9223372036854775807)
 (hG:∀(w1:World) (cs:List Value) (x:Fn),Below w.heap.size w w1→x∈xs→fnL.R (·<w1.heap.size) w1 cs x→Calls Tryz.prog 73 #[vAgg cs,.pointer (some p7)] w1 (Tells (g x) w1)):
 Calls Tryz.prog 111 #[.slice A n c,.func (.func 73) #[] #[.pointer (some p7)]] w fun e w'=>∃k:Int,e= .returned (.int .i64 k)∧decide (0≤k)=xs.any g∧Below w.heap.size w w':=by
 have HL:=qAZ hl
 have HS:=qAZ h
 have HP0:=qAZ hG
 clear hl h hG
 go_enter Tryz.func111,Tryz.ntmps111
 go_wp2_with fail
 go_loopw [8] (fun i wr=>∃k:Nat,k≤n∧i= .int .i64 (k:Nat)∧(xs.take k).any g=false∧Below w.heap.size w wr) (fun i _=>n-(intOf i).toNat)
 case atStart=>exact⟨0,qAs _,rfl,by simp,qAe _ _⟩
 case round=>
  obtain⟨k,hk,rfl,hall,hbel⟩:=hrel
  have HA:=qAZ hall
  have HB:=qAZ hbel
  have hs:=hbel.size
  clear hall hbel
  by_cases hlt:k<n
  · skip
    obtain⟨x,hx⟩:∃x,xs[k]? =some x:=⟨xs[k]'qd,qAa _⟩
    have hmem:x∈xs:=qAk hx
    obtain⟨a,cs,rfl,hab,hc,hr⟩:=HS.out.at hx
    have HX:=qAZ hx
    clear hx
    have HR:=qAZ hr
    obtain⟨p0,p1,p2,rfl,-,-,⟨A4,d4,e4,-⟩,⟨A5,d5,e5,-⟩,⟨A6,d6,e6,-⟩⟩:=hr
    simp only[List.cons.injEq,and_true] at e4 e5 e6
    subst e4 e5 e6
    have c0:=(HB.out.cell (p:=a.add (k*5)) qE).trans (hc 0 _ rfl)
    have c1:=(HB.out.cell (p:=a.add (k*5+1)) qE).trans (hc 1 _ rfl)
    rw[qAl a (k*5) 1 (by omega)] at c1
    have c2:=(HB.out.cell (p:=a.add (k*5+2)) qE).trans (hc 2 _ rfl)
    rw[qAl a (k*5) 2 (by omega)] at c2
    have c3:=(HB.out.cell (p:=a.add (k*5+3)) qE).trans (hc 3 _ rfl)
    rw[qAl a (k*5) 3 (by omega)] at c3
    have c4:=(HB.out.cell (p:=a.add (k*5+4)) qE).trans (hc 4 _ rfl)
    rw[qAl a (k*5) 4 (by omega)] at c4
    have HP:Hid (∀w1,Below w.heap.size w w1→Calls Tryz.prog 73 #[.agg #[.slice A4 x.args.length d4,.int .i64 x.ret.1,.int .i64 x.ret.2,.slice A5 x.locs.length d5,.slice A6 x.code.length d6],.pointer (some p7)] w1 (Tells (g x) w1)):=fun w1 hb=>HP0.out w1 [.slice A4 x.args.length d4,.int .i64 x.ret.1,.int .i64 x.ret.2,.slice A5 x.locs.length d5,.slice A6 x.code.length d6] x hb hmem (fnL.wide (fnL.keep HR.out fun b hb1=>hb.block b hb1) fun b hb1=>qAg hb1 hb.size)
    clear hc
    have hk0:0≤(k:Int):=by omega
    cases hg:g x
    · rw[hg] at HP
      have HG:=qAZ hg
      clear hg
      go_wp2_with (first
       |(go_at_call 73
         refine(HP.out _ HB.out).mono ?_
         rintro e w2 ⟨rfl,hb2⟩
         have Hb2:=qAZ (HB.out.trans (hb2.mono hs))
         clear hb2))
      exact qo
    · rw[hg] at HP
      have e:xs.any g=true:=qBx hmem hg
      have E:=qAZ e
      clear e hg
      go_wp2_with (first
       |(go_at_call 73
         refine(HP.out _ HB.out).mono ?_
         rintro e w2 ⟨rfl,hb2⟩
         have Hb2:=qAZ (HB.out.trans (hb2.mono hs))
         clear hb2))
      exact zZ
  · exact ql
theorem qFG (A:Option Addr) (n c:Nat) (xs:List Fn) (g:Fn→Bool) (p7:Addr) (w:World) (hl:xs.length=n) (h:Sq fnL (·<w.heap.size) w A xs) (hn2:n≤9223372036854775807)
 (hG:∀(w1:World) (cs:List Value) (x:Fn),Below w.heap.size w w1→x∈xs→fnL.R (·<w1.heap.size) w1 cs x→Calls Tryz.prog 73 #[vAgg cs,.pointer (some p7)] w1 (Tells (g x) w1)):
 Calls Tryz.prog 78 #[.slice A n c,.func (.func 73) #[] #[.pointer (some p7)]] w (Tells (xs.any g) w):=by
 have HC:=qAZ (qHl A n c xs g p7 w hl h hn2 hG)
 clear hl h hG
 generalize xs.any g=ab at*
 go_enter Tryz.func78,Tryz.ntmps78
 go_wp2_with (first|(go_at_call 111;refine HC.out.mono ?_;rintro e w1 ⟨k,rfl,hk,hb⟩;have HB:=qAZ hb;have HK:=qAZ hk;clear hb hk))
 go_ret
 exact⟨by rw[←HK.out];rfl,HB.out⟩
theorem qHk (A:Option Addr) (n c:Nat) (xs:List Imp) (g:Imp→Bool) (w:World) (hl:xs.length=n) (h:Sq impL (·<w.heap.size) w A xs) (hn2:n≤9223372036854775807)
 (hG:∀(w1:World) (cs:List Value) (x:Imp),Below w.heap.size w w1→x∈xs→impL.R (·<w1.heap.size) w1 cs x→Calls Tryz.prog 80 #[vAgg cs] w1 (Tells (g x) w1)):
 Calls Tryz.prog 112 #[.slice A n c,.func (.func 80) #[] #[]] w fun e w'=>∃k:Int,e= .returned (.int .i64 k)∧decide (0≤k)=xs.any g∧Below w.heap.size w w':=by
 have HL:=qAZ hl
 have HS:=qAZ h
 have HP0:=qAZ hG
 clear hl h hG
 go_enter Tryz.func112,Tryz.ntmps112
 go_wp2_with fail
 go_loopw [8] (fun i wr=>∃k:Nat,k≤n∧i= .int .i64 (k:Nat)∧(xs.take k).any g=false∧Below w.heap.size w wr) (fun i _=>n-(intOf i).toNat)
 case atStart=>exact⟨0,qAs _,rfl,by simp,qAe _ _⟩
 case round=>
  obtain⟨k,hk,rfl,hall,hbel⟩:=hrel
  have HA:=qAZ hall
  have HB:=qAZ hbel
  have hs:=hbel.size
  clear hall hbel
  by_cases hlt:k<n
  · skip
    obtain⟨x,hx⟩:∃x,xs[k]? =some x:=⟨xs[k]'qd,qAa _⟩
    have hmem:x∈xs:=qAk hx
    obtain⟨a,cs,rfl,hab,hc,hr⟩:=HS.out.at hx
    have HX:=qAZ hx
    clear hx
    have HR:=qAZ hr
    obtain⟨p0,rfl,-,-,⟨A4,d4,e4,-⟩⟩:=hr
    simp only[List.cons.injEq,and_true] at e4
    subst e4
    have c0:=(HB.out.cell (p:=a.add (k*3)) qE).trans (hc 0 _ rfl)
    have c1:=(HB.out.cell (p:=a.add (k*3+1)) qE).trans (hc 1 _ rfl)
    rw[qAl a (k*3) 1 (by omega)] at c1
    have c2:=(HB.out.cell (p:=a.add (k*3+2)) qE).trans (hc 2 _ rfl)
    rw[qAl a (k*3) 2 (by omega)] at c2
    have HP:Hid (∀w1,Below w.heap.size w w1→Calls Tryz.prog 80 #[.agg #[.slice A4 x.args.length d4,.int .i64 x.ret.1,.int .i64 x.ret.2]] w1 (Tells (g x) w1)):=fun w1 hb=>HP0.out w1 [.slice A4 x.args.length d4,.int .i64 x.ret.1,.int .i64 x.ret.2] x hb hmem (impL.wide (impL.keep HR.out fun b hb1=>hb.block b hb1) fun b hb1=>qAg hb1 hb.size)
    clear hc
    have hk0:0≤(k:Int):=by omega
    cases hg:g x
    · rw[hg] at HP
      have HG:=qAZ hg
      clear hg
      go_wp2_with (first
       |(go_at_call 80
         refine(HP.out _ HB.out).mono ?_
         rintro e w2 ⟨rfl,hb2⟩
         have Hb2:=qAZ (HB.out.trans (hb2.mono hs))
         clear hb2))
      exact qo
    · rw[hg] at HP
      have e:xs.any g=true:=qBx hmem hg
      have E:=qAZ e
      clear e hg
      go_wp2_with (first
       |(go_at_call 80
         refine(HP.out _ HB.out).mono ?_
         rintro e w2 ⟨rfl,hb2⟩
         have Hb2:=qAZ (HB.out.trans (hb2.mono hs))
         clear hb2))
      exact zZ
  · exact ql
theorem qFF (A:Option Addr) (n c:Nat) (xs:List Imp) (g:Imp→Bool) (w:World) (hl:xs.length=n) (h:Sq impL (·<w.heap.size) w A xs) (hn2:n≤9223372036854775807)
 (hG:∀(w1:World) (cs:List Value) (x:Imp),Below w.heap.size w w1→x∈xs→impL.R (·<w1.heap.size) w1 cs x→Calls Tryz.prog 80 #[vAgg cs] w1 (Tells (g x) w1)):
 Calls Tryz.prog 79 #[.slice A n c,.func (.func 80) #[] #[]] w (Tells (xs.any g) w):=by
 have HC:=qAZ (qHk A n c xs g w hl h hn2 hG)
 clear hl h hG
 generalize xs.any g=ab at*
 go_enter Tryz.func79,Tryz.ntmps79
 go_wp2_with (first|(go_at_call 112;refine HC.out.mono ?_;rintro e w1 ⟨k,rfl,hk,hb⟩;have HB:=qAZ hb;have HK:=qAZ hk;clear hb hk))
 go_ret
 exact⟨by rw[←HK.out];rfl,HB.out⟩
def Errs (n:Int) (w:World) (e:Ending) (w':World):Prop:=e= .returned (.int .i64 n)∧Below w.heap.size w w'
theorem qCR (cs:List Value) (x:Mod) (w:World) (h:modL.R (·<w.heap.size) w cs x):Calls Tryz.prog 49 #[vAgg cs] w (Errs (checkN x) w):=by
 have TE:Hid (∀w1,Below w.heap.size w w1→Calls Tryz.prog 72 #[vAgg cs] w1 (Encodes x w1)):=fun w1 hb=>qGo cs x w1 (qBQ h hb)
 obtain⟨_,_,_,_,_,rfl,⟨A0,d0,e0,l0,m0,s0⟩,⟨A1,d1,e1,l1,m1,s1⟩,⟨A2,d2,e2,l2,m2,s2⟩,⟨A3,d3,e3,-⟩,⟨A4,d4,e4,-⟩⟩:=h
 simp only[List.cons.injEq,and_true] at e0 e1 e2 e3 e4
 subst e0 e1 e2 e3 e4
 obtain⟨n0,h0⟩:∃n,x.recs.length=n:=⟨_,rfl⟩
 obtain⟨n1,h1⟩:∃n,x.funcs.length=n:=⟨_,rfl⟩
 obtain⟨n2,h2⟩:∃n,x.imps.length=n:=⟨_,rfl⟩
 obtain⟨n3,h3⟩:∃n,x.ints.length=n:=⟨_,rfl⟩
 obtain⟨n4,h4⟩:∃n,x.texts.length=n:=⟨_,rfl⟩
 rw[h0,h1,h2,h3,h4] at TE⊢
 unfold maxLen at m0 m1 m2
 rw[h0] at l0
 rw[h1] at l1
 rw[h2] at l2
 have TE2:Hid (∀w1,Below w.heap.size w w1→Calls Tryz.prog 72 #[.agg #[.slice A0 n0 d0,.slice A1 n1 d1,.slice A2 n2 d2,.slice A3 n3 d3,.slice A4 n4 d4]] w1 (Encodes x w1)):=TE.out
 clear TE
 show Calls Tryz.prog 49 #[.agg #[.slice A0 n0 d0,.slice A1 n1 d1,.slice A2 n2 d2,.slice A3 n3 d3,.slice A4 n4 d4]] w (Errs (checkN x) w)
 have HB0:Hid (∀o:Obj,Below w.heap.size w (w.alloc o)):=fun o=>(qAe _ _).alloc (qAf _) _
 have HC0:Hid (C5 w.heap.size (.slice A0 n0 d0) (.slice A1 n1 d1) (.slice A2 n2 d2) (.slice A3 n3 d3) (.slice A4 n4 d4) (w.alloc (.cells #[.slice A0 n0 d0,.slice A1 n1 d1,.slice A2 n2 d2,.slice A3 n3 d3,.slice A4 n4 d4] 28))):=by show C5 _ _ _ _ _ _ _;simp[C5,go_sem]
 cases hf:fitB x
 · have HF:=qAZ hf
   have HN:=qAZ (qCb hf)
   generalize checkN x=cn at*
   clear hf s0 s1 s2 h0 h1 h2 h3 h4
   go_enter Tryz.func49,Tryz.ntmps49
   go_wp2_with (first
    |(go_at_call 72
      refine(TE2.out _ (HB0.out _)).mono ?_
      rintro e w1 ⟨hb1,⟨h1,rfl⟩|⟨h1,h2⟩⟩
      rotate_left
      · rw[HF.out] at h1
        cases h1
      have HB1:=qAZ ((HB0.out _).trans (hb1.mono (by simp)))
      clear hb1 h1))
   go_ret
   exact⟨by rw[HN.out];rfl,HB1.out⟩
 · have HF:=qAZ hf
   have hF:=qBJ.1 hf
   have T1:Hid (∀w1 (B:Nat),Below w.heap.size w w1→C5 B (.slice A0 n0 d0) (.slice A1 n1 d1) (.slice A2 n2 d2) (.slice A3 n3 d3) (.slice A4 n4 d4) w1→Calls Tryz.prog 78 #[.slice A1 n1 d1,.func (.func 73) #[] #[.pointer (some ⟨B,0,none⟩)]] w1 (Tells (x.funcs.any (badFn x)) w1)):=fun w1 B hb hc=>
    qFG A1 n1 d1 x.funcs (badFn x) ⟨B,0,none⟩ w1 h1 ((s1.keep fun b hb1=>hb.block b hb1).wide fun b hb1=>qAg hb1 hb.size) (by omega) fun w2 cs y hb2 hy hr=>by
     have hb3:Below w.heap.size w w2:=hb.trans (hb2.mono hb.size)
     exact qGr A0 A1 A2 A3 A4 n0 n1 n2 n3 n4 d0 d1 d2 d3 d4 x B y w2 h0 h1 h2 h3 h4 (by omega) ((s0.keep fun b hb1=>hb3.block b hb1).wide fun b hb1=>qAg hb1 hb3.size) (hc.below hb2 (qAn w1 _ hc.1)) cs hr (by rw[←h0];exact hF.funcs y hy)
   have T2:Hid (∀w1,Below w.heap.size w w1→Calls Tryz.prog 79 #[.slice A2 n2 d2,.func (.func 80) #[] #[]] w1 (Tells (x.imps.any badImp) w1)):=fun w1 hb=>
    qFF A2 n2 d2 x.imps badImp w1 h2 ((s2.keep fun b hb1=>hb.block b hb1).wide fun b hb1=>qAg hb1 hb.size) (by omega) fun w2 cs y _ _ hr=>qDf y w2 cs hr
   have HO:Hid (badM x=(x.funcs.any (badFn x) || x.imps.any badImp)):=rfl
   have HN:Hid (checkN x=if badM x=true then 1 else 0):=by show checkN x=_;simp[checkN,hf]
   generalize checkN x=cn at*
   generalize badM x=bm at*
   generalize x.funcs.any (badFn x)=b1 at*
   generalize x.imps.any badImp=b2 at*
   clear hf hF s0 s1 s2 h0 h1 h2 h3 h4
   cases b1
   case' false=>cases b2
   all_goals
    go_enter Tryz.func49,Tryz.ntmps49
    go_wp2_with (first
     |(go_at_call 72
       refine(TE2.out _ (HB0.out _)).mono ?_
       rintro e w1 ⟨hb1,⟨h1,h2⟩|⟨h1,u,rfl,hown⟩⟩
       · rw[HF.out] at h1
         cases h1
       have HB1:=qAZ ((HB0.out _).trans (hb1.mono (by simp)))
       have HC1:=qAZ (HC0.out.below hb1 (by simp))
       have hs1:w.heap.size<w1.heap.size:=zU
       obtain⟨A5,c5,rfl,-,-,-,-⟩:=qA5 hown
       obtain⟨x0,x1,x2,x3,x4⟩:=HC1.out
       clear hb1 h1 hown)
     |(go_at_call 78
       refine(T1.out _ _ HB1.out HC1.out).mono ?_
       rintro e w2 ⟨rfl,hb2⟩
       have HB2:=qAZ (HB1.out.trans (hb2.mono HB1.out.size))
       obtain⟨y0,y1,y2,y3,y4⟩:=HC1.out.below hb2 hs1
       clear hb2)
     |(go_at_call 79
       refine(T2.out _ HB2.out).mono ?_
       rintro e w3 ⟨rfl,hb3⟩
       have HB3:=qAZ (HB2.out.trans (hb3.mono HB2.out.size))
       clear hb3))
    go_ret
    first|exact⟨by rw[HN.out,HO.out];rfl,HB3.out⟩|exact⟨by rw[HN.out,HO.out];rfl,HB2.out⟩
theorem qFn (cs:List Value) (x:Mod) (w:World) (h:modL.R (·<w.heap.size) w cs x):Calls Tryz.prog 19 #[vAgg cs] w (Tells (mainB x) w):=by
 have TE:Hid (∀w1,Below w.heap.size w w1→Calls Tryz.prog 49 #[vAgg cs] w1 (Errs (checkN x) w1)):=fun w1 hb=>qCR cs x w1 (qBQ h hb)
 obtain⟨_,_,_,_,_,rfl,⟨A0,d0,e0,-⟩,⟨A1,d1,e1,l1,m1,s1⟩,⟨A2,d2,e2,-⟩,⟨A3,d3,e3,-⟩,⟨A4,d4,e4,-⟩⟩:=h
 simp only[List.cons.injEq,and_true] at e0 e1 e2 e3 e4
 subst e0 e1 e2 e3 e4
 obtain⟨n1,h1⟩:∃n,x.funcs.length=n:=⟨_,rfl⟩
 rw[h1] at TE⊢
 generalize x.recs.length=n0 at*
 generalize x.imps.length=n2 at*
 generalize x.ints.length=n3 at*
 generalize x.texts.length=n4 at*
 have TE2:Hid (∀w1,Below w.heap.size w w1→Calls Tryz.prog 49 #[.agg #[.slice A0 n0 d0,.slice A1 n1 d1,.slice A2 n2 d2,.slice A3 n3 d3,.slice A4 n4 d4]] w1 (Errs (checkN x) w1)):=TE.out
 clear TE
 show Calls Tryz.prog 19 #[.agg #[.slice A0 n0 d0,.slice A1 n1 d1,.slice A2 n2 d2,.slice A3 n3 d3,.slice A4 n4 d4]] w (Tells (mainB x) w)
 have HB0:Hid (∀o:Obj,Below w.heap.size w (w.alloc o)):=fun o=>(qAe _ _).alloc (qAf _) _
 have HC0:Hid (C5 w.heap.size (.slice A0 n0 d0) (.slice A1 n1 d1) (.slice A2 n2 d2) (.slice A3 n3 d3) (.slice A4 n4 d4) (w.alloc (.cells #[.slice A0 n0 d0,.slice A1 n1 d1,.slice A2 n2 d2,.slice A3 n3 d3,.slice A4 n4 d4] 28))):=by show C5 _ _ _ _ _ _ _;simp[C5,go_sem]
 by_cases hc:checkN x=0
 rotate_left
 · have HN:=qAZ (qCO hc)
   have b:(checkN x != 0)=true:=by simpa using hc
   generalize mainB x=mb at*
   generalize checkN x=cn at*
   clear hc s1 h1
   go_enter Tryz.func19,Tryz.ntmps19
   go_wp2_with (first
    |(go_at_call 49
      refine(TE2.out _ (HB0.out _)).mono ?_
      rintro e w1 ⟨rfl,hb1⟩
      have HB1:=qAZ ((HB0.out _).trans (hb1.mono (by simp)))
      clear hb1))
   go_ret
   exact⟨by rw[HN.out];rfl,HB1.out⟩
 · have hF:=qBJ.1 (qBI hc)
   have hf1:=hF.f1
   have hf8:=hF.f8
   obtain⟨f,fs,hfs⟩:∃f fs,x.funcs=f::fs:=by
    cases hx:x.funcs with
    |nil=>rw[hx] at hf1;simp at hf1
    |cons f fs=>exact⟨f,fs,rfl⟩
   have HN:=qAZ (qEb hc hfs)
   rw[hc] at TE2
   obtain⟨a,cs,ea,hab,hcl,hR⟩:=s1.at (k:=0) (x:=f) (by rw[hfs];rfl)
   subst ea
   obtain⟨p0,p1,p2,rfl,-,-,⟨P0,c0,e4,-⟩,⟨P1,c1,e5,-⟩,⟨P2,c2,e6,-⟩⟩:=hR
   simp only[List.cons.injEq,and_true] at e4 e5 e6
   subst e4 e5 e6
   have HCL:Hid (∀w1,Below w.heap.size w w1→w1.cell? a=some (.slice P0 f.args.length c0)∧w1.cell? ⟨a.block,a.off+1,none⟩=some (.int .i64 f.ret.1)∧w1.cell? ⟨a.block,a.off+2,none⟩=some (.int .i64 f.ret.2)∧w1.cell? ⟨a.block,a.off+3,none⟩=some (.slice P1 f.locs.length c1)∧w1.cell? ⟨a.block,a.off+4,none⟩=some (.slice P2 f.code.length c2)):=fun w1 hb=>by
    have k0:=hcl 0 _ rfl
    have k1:=hcl 1 _ rfl
    have k2:=hcl 2 _ rfl
    have k3:=hcl 3 _ rfl
    have k4:=hcl 4 _ rfl
    simp only[Nat.zero_mul,Nat.zero_add] at k0 k1 k2 k3 k4
    have e0:a.add 0=a:=by simp[Addr.add]
    have en:∀i,0<i→a.add i=⟨a.block,a.off+i,none⟩:=fun i hi=>by
     have h:i≠0:=by omega
     simp[Addr.add,h]
    rw[e0] at k0
    rw[en _ (by omega)] at k1 k2 k3 k4
    exact⟨(hb.cell (p:=a) hab).trans k0,(hb.cell (p:=⟨a.block,a.off+1,none⟩) hab).trans k1,(hb.cell (p:=⟨a.block,a.off+2,none⟩) hab).trans k2,(hb.cell (p:=⟨a.block,a.off+3,none⟩) hab).trans k3,(hb.cell (p:=⟨a.block,a.off+4,none⟩) hab).trans k4⟩
   have hn1:0<n1:=by rw[←h1];exact hf1
   have hn1':(0:Int)<(n1:Int):=by omega
   clear hc hF hf1 hf8 hfs h1 s1 hcl l1 m1
   generalize mainB x=mb at*
   generalize f.args.length=u0 at*
   generalize f.locs.length=u1 at*
   generalize f.code.length=u2 at*
   generalize f.ret.1=k1 at*
   generalize f.ret.2=k2 at*
   rcases Nat.eq_zero_or_pos u0 with hu|hu
   · subst hu
     go_enter Tryz.func19,Tryz.ntmps19
     go_wp2_with (first
      |(go_at_call 49
        refine(TE2.out _ (HB0.out _)).mono ?_
        rintro e w1 ⟨rfl,hb1⟩
        have HB1:=qAZ ((HB0.out _).trans (hb1.mono (by simp)))
        obtain⟨x0,x1,x2,x3,x4⟩:=HC0.out.below hb1 (by simp)
        obtain⟨y0,y1,y2,y3,y4⟩:=HCL.out _ HB1.out
        clear hb1))
     go_ret
     exact⟨by rw[HN.out];simp;rfl,HB1.out.alloc HB1.out.size _⟩
   · have hd:((u0:Int)==0)=false:=by simp;omega
     have hd2:(u0==0)=false:=by simp;omega
     go_enter Tryz.func19,Tryz.ntmps19
     go_wp2_with (first
      |(go_at_call 49
        refine(TE2.out _ (HB0.out _)).mono ?_
        rintro e w1 ⟨rfl,hb1⟩
        have HB1:=qAZ ((HB0.out _).trans (hb1.mono (by simp)))
        obtain⟨x0,x1,x2,x3,x4⟩:=HC0.out.below hb1 (by simp)
        obtain⟨y0,y1,y2,y3,y4⟩:=HCL.out _ HB1.out
        clear hb1))
     go_ret
     exact⟨by rw[HN.out,decide_eq_false (show ¬u0=0 by omega)];rfl,HB1.out.alloc HB1.out.size _⟩
end Go.Proofs.YtconajaecpgjgaaGreat
