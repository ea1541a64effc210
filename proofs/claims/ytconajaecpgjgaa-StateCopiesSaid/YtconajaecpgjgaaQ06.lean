/-
Ixhan Ixwrg Sc1 Ixmis Sc2 Sc3 Ixbfn Ixbim Wityp Wiins Kgd Iar
-/
import Derived.Test.YtconajaecpgjgaaQ01
import Derived.Test.YtconajaecpgjgaaQ05
import Derived.BigQuiet
import Derived.Deep.RegionWith
set_option linter.unusedSimpArgs false
set_option linter.unusedVariables false
set_option maxRecDepth 100000
set_option maxHeartbeats 4000000
namespace Go.Proofs.Ytconajaecpgjgaa
open Go.RowKit
theorem qJ {P:Prop} (h:P:=by
 go_wp2_with fail
 go_ret
 exact⟨rfl,(zS _ _).alloc (zQ _) _⟩):P:=h
theorem qK {P:Prop} (h:P:=by
 clear h0 h1 h2 h3 h4 g0 g1 g2 hR
 go_enter Try.func53,Try.ntmps53
 go_wp2_with fail
 go_ret
 exact⟨by rw[HN.out,←dge];rfl,HBel.out⟩):P:=h
theorem qM {P:Prop} (h:P:=by
 obtain rfl:k=n:=by omega
 go_wp2_with fail
 go_ret
 refine⟨?_,HB.out⟩
 have e:=HA.out
 rw[zU (by rw[HL.out];exact zQ _)] at e
 rw[HW.out,e]
 rfl):P:=h
theorem qU {P:Prop} (h:P:=by
 go_wp2_with fail
 go_ret
 exact⟨rfl,zS _ _⟩):P:=h
theorem qX {P:Prop} (h:P:=by
 obtain rfl:k=n:=by omega
 go_wp2_with fail
 go_ret
 exact⟨_,rfl,by rw[qDS HA.out HL.out];rfl,HB.out⟩):P:=h
theorem qZ {P:Prop} (h:P:=by
 generalize r.length=rl at*
 have hk0:0≤(k:Int):=by omega
 clear h0 h1 h2 h3 h4 g0 g1 g2 hR hr hc
 go_enter Try.func53,Try.ntmps53
 go_wp2_with fail
 go_quiet (fail)
 go_wp2_with fail
 go_ret
 exact⟨by show Ending.returned (Value.bool (decide (n0≤k) || decide ((rl:Int)≤b)))=_;rw[HN.out,←dge,decide_eq_false (show ¬n0≤k by omega)];rfl,qAA HBel.out _ HBel.out.size⟩):P:=h
theorem qf {P:Prop} (h:P:=by
 have hge:(n0:Int)≤a:=by omega
 have hd:decide (a<(n0:Int))=false:=by simp;omega
 clear h0 h1 h2 h3 h4 g0 g1 g2 hR
 go_enter Try.func53,Try.ntmps53
 go_wp2_with fail
 go_quiet (fail)
 go_wp2_with fail
 go_ret
 exact⟨by rw[HN.out];rfl,qAA HBel.out _ HBel.out.size⟩):P:=h
theorem qi {P:Prop} (h:P:=by
 go_enter Try.func58,Try.ntmps58
 exact qJ):P:=h
theorem qt {P:Prop} (h:P:=by
 go_ret
 exact⟨by rw[E.out];rfl,Hb2.out⟩):P:=h
theorem qu {P:Prop} (h:P:=by
 have e:argN op= -1:=by unfold argN;rw[if_neg (by omega),if_neg (by omega),if_pos (by omega)]
 rw[e]
 clear e
 go_enter Try.func80,Try.ntmps80
 go_wp2_with fail
 go_ret
 exact⟨rfl,rfl⟩):P:=h
theorem qy {P:Prop} (h:P:=by
 go_ret
 exact⟨_,rfl,by rw[E.out];simp,Hb2.out⟩):P:=h
theorem qCm (A:Option Addr) (n c:Nat) (xs:List Typ) (g:Typ→Bool) (w:World) (hl:xs.length=n) (h:Sq typL (·<w.heap.size) w A xs) (hn2:n≤9223372036854775807)
 (hG:∀(w1:World) (cs:List Value) (x:Typ),Below w.heap.size w w1→x∈xs→typL.R (·<w1.heap.size) w1 cs x→Calls Try.prog 33 #[vAgg cs] w1 (Tells (g x) w1)):
 Calls Try.prog 51 #[.slice A n c,.func (.func 33) #[] #[]] w fun e w'=>∃k:Int,e= .returned (.int .i64 k)∧decide (0≤k)=xs.any g∧Below w.heap.size w w':=by
 have HL:=zL hl
 have HS:=zL h
 have HP0:=zL hG
 clear hl h hG
 go_enter Try.func51,Try.ntmps51
 go_wp2_with fail
 go_loopw [8] (fun i wr=>∃k:Nat,k≤n∧i= .int .i64 (k:Nat)∧(xs.take k).any g=false∧Below w.heap.size w wr) (fun i _=>n-(intOf i).toNat)
 case atStart=>exact⟨0,zY _,rfl,by simp,zS _ _⟩
 case round=>
  obtain⟨k,hk,rfl,hall,hbel⟩:=hrel
  have HA:=zL hall
  have HB:=zL hbel
  have hs:=hbel.size
  clear hall hbel
  by_cases hlt:k<n
  · skip
    obtain⟨x,hx⟩:∃x,xs[k]? =some x:=⟨xs[k]'qR,zM _⟩
    have hmem:x∈xs:=zT hx
    obtain⟨a,cs,rfl,hab,hc,hr⟩:=HS.out.at hx
    have HX:=zL hx
    clear hx
    have HR:=zL hr
    obtain⟨rfl,-,-⟩:=hr
    have c0:=(HB.out.cell (p:=a.add (k*2)) qI).trans (hc 0 _ rfl)
    have c1:=(HB.out.cell (p:=a.add (k*2+1)) qI).trans (hc 1 _ rfl)
    rw[zV a (k*2) 1 (by omega)] at c1
    have HP:Hid (∀w1,Below w.heap.size w w1→Calls Try.prog 33 #[.agg #[.int .i64 x.1,.int .i64 x.2]] w1 (Tells (g x) w1)):=fun w1 hb=>HP0.out w1 [.int .i64 x.1,.int .i64 x.2] x hb hmem (typL.wide (typL.keep HR.out fun b hb1=>hb.block b hb1) fun b hb1=>zP hb1 hb.size)
    clear hc
    have hk0:0≤(k:Int):=by omega
    cases hg:g x
    · rw[hg] at HP
      have HG:=zL hg
      clear hg
      go_wp2_with (first
       |(go_at_call 33
         refine(HP.out _ HB.out).mono ?_
         rintro e w2 ⟨rfl,hb2⟩
         have Hb2:=zL (HB.out.trans (hb2.mono hs))
         clear hb2))
      exact qa
    · rw[hg] at HP
      have e:xs.any g=true:=jm hmem hg
      have E:=zL e
      clear e hg
      go_wp2_with (first
       |(go_at_call 33
         refine(HP.out _ HB.out).mono ?_
         rintro e w2 ⟨rfl,hb2⟩
         have Hb2:=zL (HB.out.trans (hb2.mono hs))
         clear hb2))
      exact qy
  · exact qX
theorem qBE (A:Option Addr) (n c:Nat) (xs:List Typ) (g:Typ→Bool) (w:World) (hl:xs.length=n) (h:Sq typL (·<w.heap.size) w A xs) (hn2:n≤9223372036854775807)
 (hG:∀(w1:World) (cs:List Value) (x:Typ),Below w.heap.size w w1→x∈xs→typL.R (·<w1.heap.size) w1 cs x→Calls Try.prog 33 #[vAgg cs] w1 (Tells (g x) w1)):
 Calls Try.prog 32 #[.slice A n c,.func (.func 33) #[] #[]] w (Tells (xs.any g) w):=by
 have HC:=zL (qCm A n c xs g w hl h hn2 hG)
 clear hl h hG
 generalize xs.any g=ab at*
 go_enter Try.func32,Try.ntmps32
 go_wp2_with (first|(go_at_call 51;refine HC.out.mono ?_;rintro e w1 ⟨k,rfl,hk,hb⟩;have HB:=zL hb;have HK:=zL hk;clear hb hk))
 go_ret
 exact⟨by rw[←HK.out];rfl,HB.out⟩
theorem qCk (A:Option Addr) (n c:Nat) (xs:List Typ) (g:Typ→Bool) (w:World) (hl:xs.length=n) (h:Sq typL (·<w.heap.size) w A xs) (hn2:n≤9223372036854775807)
 (hG:∀(w1:World) (cs:List Value) (x:Typ),Below w.heap.size w w1→x∈xs→typL.R (·<w1.heap.size) w1 cs x→Calls Try.prog 56 #[vAgg cs] w1 (Tells (g x) w1)):
 Calls Try.prog 51 #[.slice A n c,.func (.func 56) #[] #[]] w fun e w'=>∃k:Int,e= .returned (.int .i64 k)∧decide (0≤k)=xs.any g∧Below w.heap.size w w':=by
 have HL:=zL hl
 have HS:=zL h
 have HP0:=zL hG
 clear hl h hG
 go_enter Try.func51,Try.ntmps51
 go_wp2_with fail
 go_loopw [8] (fun i wr=>∃k:Nat,k≤n∧i= .int .i64 (k:Nat)∧(xs.take k).any g=false∧Below w.heap.size w wr) (fun i _=>n-(intOf i).toNat)
 case atStart=>exact⟨0,zY _,rfl,by simp,zS _ _⟩
 case round=>
  obtain⟨k,hk,rfl,hall,hbel⟩:=hrel
  have HA:=zL hall
  have HB:=zL hbel
  have hs:=hbel.size
  clear hall hbel
  by_cases hlt:k<n
  · skip
    obtain⟨x,hx⟩:∃x,xs[k]? =some x:=⟨xs[k]'qR,zM _⟩
    have hmem:x∈xs:=zT hx
    obtain⟨a,cs,rfl,hab,hc,hr⟩:=HS.out.at hx
    have HX:=zL hx
    clear hx
    have HR:=zL hr
    obtain⟨rfl,-,-⟩:=hr
    have c0:=(HB.out.cell (p:=a.add (k*2)) qI).trans (hc 0 _ rfl)
    have c1:=(HB.out.cell (p:=a.add (k*2+1)) qI).trans (hc 1 _ rfl)
    rw[zV a (k*2) 1 (by omega)] at c1
    have HP:Hid (∀w1,Below w.heap.size w w1→Calls Try.prog 56 #[.agg #[.int .i64 x.1,.int .i64 x.2]] w1 (Tells (g x) w1)):=fun w1 hb=>HP0.out w1 [.int .i64 x.1,.int .i64 x.2] x hb hmem (typL.wide (typL.keep HR.out fun b hb1=>hb.block b hb1) fun b hb1=>zP hb1 hb.size)
    clear hc
    have hk0:0≤(k:Int):=by omega
    cases hg:g x
    · rw[hg] at HP
      have HG:=zL hg
      clear hg
      go_wp2_with (first
       |(go_at_call 56
         refine(HP.out _ HB.out).mono ?_
         rintro e w2 ⟨rfl,hb2⟩
         have Hb2:=zL (HB.out.trans (hb2.mono hs))
         clear hb2))
      exact qa
    · rw[hg] at HP
      have e:xs.any g=true:=jm hmem hg
      have E:=zL e
      clear e hg
      go_wp2_with (first
       |(go_at_call 56
         refine(HP.out _ HB.out).mono ?_
         rintro e w2 ⟨rfl,hb2⟩
         have Hb2:=zL (HB.out.trans (hb2.mono hs))
         clear hb2))
      exact qy
  · exact qX
theorem qBC (A:Option Addr) (n c:Nat) (xs:List Typ) (g:Typ→Bool) (w:World) (hl:xs.length=n) (h:Sq typL (·<w.heap.size) w A xs) (hn2:n≤9223372036854775807)
 (hG:∀(w1:World) (cs:List Value) (x:Typ),Below w.heap.size w w1→x∈xs→typL.R (·<w1.heap.size) w1 cs x→Calls Try.prog 56 #[vAgg cs] w1 (Tells (g x) w1)):
 Calls Try.prog 32 #[.slice A n c,.func (.func 56) #[] #[]] w (Tells (xs.any g) w):=by
 have HC:=zL (qCk A n c xs g w hl h hn2 hG)
 clear hl h hG
 generalize xs.any g=ab at*
 go_enter Try.func32,Try.ntmps32
 go_wp2_with (first|(go_at_call 51;refine HC.out.mono ?_;rintro e w1 ⟨k,rfl,hk,hb⟩;have HB:=zL hb;have HK:=zL hk;clear hb hk))
 go_ret
 exact⟨by rw[←HK.out];rfl,HB.out⟩
theorem qAw (x:Typ) (w:World) (cs:List Value) (hr:typL.R (·<w.heap.size) w cs x):Calls Try.prog 33 #[vAgg cs] w (Tells (hanB x) w):=by
 obtain⟨rfl,-,-⟩:=hr
 show Calls Try.prog 33 #[.agg #[.int .i64 x.1,.int .i64 x.2]] w (Tells (hanB x) w)
 have HD:Hid (hanB x=(x.1==5)):=by show hanB x=_;rw[Bool.eq_iff_iff];simp[hanB]
 generalize hanB x=gd at*
 generalize x.1=q1 at*
 generalize x.2=q2 at*
 go_enter Try.func33,Try.ntmps33
 go_wp2_with fail
 go_ret
 exact⟨by rw[HD.out];rfl,(zS _ _).alloc (zQ _) _⟩
theorem qAs (x:Typ) (w:World) (cs:List Value) (hr:typL.R (·<w.heap.size) w cs x):Calls Try.prog 56 #[vAgg cs] w (Tells (!hostB x) w):=by
 have HC:Hid (∀w1,Calls Try.prog 33 #[.agg #[.int .i64 x.1,.int .i64 x.2]] w1 (Tells (hanB x) w1)):=fun w1=>qAw x w1 _ ⟨rfl,hr.2⟩
 obtain⟨rfl,-,-⟩:=hr
 show Calls Try.prog 56 #[.agg #[.int .i64 x.1,.int .i64 x.2]] w (Tells (!hostB x) w)
 have HB0:Hid (∀o:Obj,Below w.heap.size w (w.alloc o)):=fun o=>(zS _ _).alloc (zQ _) _
 by_cases h:x.1=1
 · have HD:Hid (hostB x=true):=by show hostB x=_;simp[hostB,h]
   have b:(x.1 != 1)=false:=by simpa using h
   clear h
   generalize hostB x=gd at*
   generalize x.1=q1 at*
   generalize x.2=q2 at*
   go_enter Try.func56,Try.ntmps56
   go_wp2_with fail
   go_ret
   exact⟨by rw[HD.out];rfl,HB0.out _⟩
 · have HD:Hid (hostB x=hanB x):=by show hostB x=_;simp[hostB,hanB,h]
   have b:(x.1 != 1)=true:=by simpa using h
   clear h
   generalize hostB x=gd at*
   generalize hanB x=ge at*
   generalize x.1=q1 at*
   generalize x.2=q2 at*
   go_enter Try.func56,Try.ntmps56
   go_wp2_with (first|(go_at_call 33;refine(HC.out _).mono ?_;rintro e w1 ⟨rfl,hb⟩;have HB:=zL ((HB0.out _).trans (hb.mono (by simp)));clear hb))
   go_ret
   exact⟨by rw[HD.out];rfl,HB.out⟩
theorem qAQ (x:Imp) (w:World) (cs:List Value) (hr:impL.R (·<w.heap.size) w cs x):Calls Try.prog 38 #[vAgg cs] w (Tells (badImp x) w):=by
 obtain⟨p0,rfl,i1,i2,⟨A4,d4,e4,l4,m4,s4⟩⟩:=hr
 simp only[List.cons.injEq,and_true] at e4
 subst e4
 show Calls Try.prog 38 #[.agg #[.slice A4 x.args.length d4,.int .i64 x.ret.1,.int .i64 x.ret.2]] w (Tells (badImp x) w)
 obtain⟨n,hn⟩:∃n,x.args.length=n:=⟨_,rfl⟩
 have hn2:n≤9223372036854775807:=by unfold maxLen at m4;omega
 have T0:Hid (∀w1,Below w.heap.size w w1→Calls Try.prog 32 #[.slice A4 n d4,.func (.func 56) #[] #[]] w1 (Tells (x.args.any fun t=> !hostB t) w1)):=fun w1 hb=>
  qBC A4 n d4 x.args (fun t=> !hostB t) w1 hn ((s4.keep fun b hb1=>hb.block b hb1).wide fun b hb1=>zP hb1 hb.size) hn2 fun w2 cs y _ _ hr=>qAs y w2 cs hr
 have T1:Hid (∀w1,Calls Try.prog 56 #[.agg #[.int .i64 x.ret.1,.int .i64 x.ret.2]] w1 (Tells (!hostB x.ret) w1)):=fun w1=>qAs x.ret w1 _ ⟨rfl,i1,i2⟩
 have HO:Hid (badImp x=((x.args.any fun t=> !hostB t) || !hostB x.ret)):=rfl
 rw[hn]
 clear hn l4 m4 s4 i1 i2
 generalize badImp x=gd at*
 generalize (x.args.any fun t=> !hostB t)=b1 at*
 generalize (!hostB x.ret)=b2 at*
 generalize x.ret.1=k1 at*
 generalize x.ret.2=k2 at*
 have HB0:Hid (Below w.heap.size w (w.alloc (.cells #[.slice A4 n d4,.int .i64 k1,.int .i64 k2] 84))):=(zS _ _).alloc (zQ _) _
 have HX1:Hid (∀w1,Below (w.alloc (.cells #[.slice A4 n d4,.int .i64 k1,.int .i64 k2] 84)).heap.size (w.alloc (.cells #[.slice A4 n d4,.int .i64 k1,.int .i64 k2] 84)) w1→w1.cell? ⟨w.heap.size,1,none⟩=some (.int .i64 k1)∧w1.cell? ⟨w.heap.size,2,none⟩=some (.int .i64 k2)):=fun w1 h1=>
  ⟨(h1.cell (p:=⟨w.heap.size,1,none⟩) (by simp)).trans (by simp[go_sem]),(h1.cell (p:=⟨w.heap.size,2,none⟩) (by simp)).trans (by simp[go_sem])⟩
 cases b1
 all_goals
  go_enter Try.func38,Try.ntmps38
  go_wp2_with (first
   |(go_at_call 32
     refine(T0.out _ HB0.out).mono ?_
     rintro e w1 ⟨rfl,hb1⟩
     have HB1:=zL (HB0.out.trans (hb1.mono HB0.out.size))
     obtain⟨y1,y2⟩:=HX1.out w1 hb1
     clear hb1)
   |(go_at_call 56
     refine(T1.out _).mono ?_
     rintro e w2 ⟨rfl,hb2⟩
     have HB2:=zL (HB1.out.trans (hb2.mono HB1.out.size))
     clear hb2))
  go_ret
 · exact⟨by rw[HO.out];rfl,HB2.out⟩
 · exact⟨by rw[HO.out];rfl,HB1.out⟩
theorem qCl (A:Option Addr) (n c:Nat) (xs:List Ins) (g:Ins→Bool) (p7:Addr) (p8:Addr) (w:World) (hl:xs.length=n) (h:Sq insL (·<w.heap.size) w A xs) (hn2:n≤9223372036854775807)
 (hG:∀(w1:World) (cs:List Value) (x:Ins),Below w.heap.size w w1→x∈xs→insL.R (·<w1.heap.size) w1 cs x→Calls Try.prog 53 #[vAgg cs,.pointer (some p7),.pointer (some p8)] w1 (Tells (g x) w1)):
 Calls Try.prog 52 #[.slice A n c,.func (.func 53) #[] #[.pointer (some p7),.pointer (some p8)]] w fun e w'=>∃k:Int,e= .returned (.int .i64 k)∧decide (0≤k)=xs.any g∧Below w.heap.size w w':=by
 have HL:=zL hl
 have HS:=zL h
 have HP0:=zL hG
 clear hl h hG
 go_enter Try.func52,Try.ntmps52
 go_wp2_with fail
 go_loopw [8] (fun i wr=>∃k:Nat,k≤n∧i= .int .i64 (k:Nat)∧(xs.take k).any g=false∧Below w.heap.size w wr) (fun i _=>n-(intOf i).toNat)
 case atStart=>exact⟨0,zY _,rfl,by simp,zS _ _⟩
 case round=>
  obtain⟨k,hk,rfl,hall,hbel⟩:=hrel
  have HA:=zL hall
  have HB:=zL hbel
  have hs:=hbel.size
  clear hall hbel
  by_cases hlt:k<n
  · skip
    obtain⟨x,hx⟩:∃x,xs[k]? =some x:=⟨xs[k]'qR,zM _⟩
    have hmem:x∈xs:=zT hx
    obtain⟨a,cs,rfl,hab,hc,hr⟩:=HS.out.at hx
    have HX:=zL hx
    clear hx
    have HR:=zL hr
    obtain⟨rfl,-,-,-⟩:=hr
    have c0:=(HB.out.cell (p:=a.add (k*3)) qI).trans (hc 0 _ rfl)
    have c1:=(HB.out.cell (p:=a.add (k*3+1)) qI).trans (hc 1 _ rfl)
    rw[zV a (k*3) 1 (by omega)] at c1
    have c2:=(HB.out.cell (p:=a.add (k*3+2)) qI).trans (hc 2 _ rfl)
    rw[zV a (k*3) 2 (by omega)] at c2
    have HP:Hid (∀w1,Below w.heap.size w w1→Calls Try.prog 53 #[.agg #[.int .i64 x.1,.int .i64 x.2.1,.int .i64 x.2.2],.pointer (some p7),.pointer (some p8)] w1 (Tells (g x) w1)):=fun w1 hb=>HP0.out w1 [.int .i64 x.1,.int .i64 x.2.1,.int .i64 x.2.2] x hb hmem (insL.wide (insL.keep HR.out fun b hb1=>hb.block b hb1) fun b hb1=>zP hb1 hb.size)
    clear hc
    have hk0:0≤(k:Int):=by omega
    cases hg:g x
    · rw[hg] at HP
      have HG:=zL hg
      clear hg
      go_wp2_with (first
       |(go_at_call 53
         refine(HP.out _ HB.out).mono ?_
         rintro e w2 ⟨rfl,hb2⟩
         have Hb2:=zL (HB.out.trans (hb2.mono hs))
         clear hb2))
      exact qa
    · rw[hg] at HP
      have e:xs.any g=true:=jm hmem hg
      have E:=zL e
      clear e hg
      go_wp2_with (first
       |(go_at_call 53
         refine(HP.out _ HB.out).mono ?_
         rintro e w2 ⟨rfl,hb2⟩
         have Hb2:=zL (HB.out.trans (hb2.mono hs))
         clear hb2))
      exact qy
  · exact qX
theorem qBD (A:Option Addr) (n c:Nat) (xs:List Ins) (g:Ins→Bool) (p7:Addr) (p8:Addr) (w:World) (hl:xs.length=n) (h:Sq insL (·<w.heap.size) w A xs) (hn2:n≤9223372036854775807)
 (hG:∀(w1:World) (cs:List Value) (x:Ins),Below w.heap.size w w1→x∈xs→insL.R (·<w1.heap.size) w1 cs x→Calls Try.prog 53 #[vAgg cs,.pointer (some p7),.pointer (some p8)] w1 (Tells (g x) w1)):
 Calls Try.prog 34 #[.slice A n c,.func (.func 53) #[] #[.pointer (some p7),.pointer (some p8)]] w (Tells (xs.any g) w):=by
 have HC:=zL (qCl A n c xs g p7 p8 w hl h hn2 hG)
 clear hl h hG
 generalize xs.any g=ab at*
 go_enter Try.func34,Try.ntmps34
 go_wp2_with (first|(go_at_call 52;refine HC.out.mono ?_;rintro e w1 ⟨k,rfl,hk,hb⟩;have HB:=zL hb;have HK:=zL hk;clear hb hk))
 go_ret
 exact⟨by rw[←HK.out];rfl,HB.out⟩
theorem qA8 (A0 A1 A2 A3 A4 P0 P1 P2:Option Addr) (n0 n1 n2 n3 n4 d0 d1 d2 d3 d4 u0 u1 u2 c0 c1 c2:Nat) (r1 r2:Int) (m:Mod) (f:Fn) (o a b:Int) (w:World) (B G:Nat) (h0:m.recs.length=n0) (h1:m.funcs.length=n1) (h2:m.imps.length=n2) (h3:m.ints.length=n3) (h4:m.texts.length=n4) (g0:f.args.length=u0) (g1:f.locs.length=u1) (g2:f.code.length=u2) (hn0:n0≤9223372036854775807) (hu0:u0≤1000) (hu1:u1≤1000) (ha:0≤a∧a≤255) (hb:0≤b∧b≤255) (hR:Sq tysL (·<w.heap.size) w A0 m.recs) (hC:C5 B (.slice A0 n0 d0) (.slice A1 n1 d1) (.slice A2 n2 d2) (.slice A3 n3 d3) (.slice A4 n4 d4) w) (hD:C5 G (.slice P0 u0 c0) (.int .i64 r1) (.int .i64 r2) (.slice P1 u1 c1) (.slice P2 u2 c2) w):
 Calls Try.prog 53 #[.agg #[.int .i64 o,.int .i64 a,.int .i64 b],.pointer (some ⟨B,0,none⟩),.pointer (some ⟨G,0,none⟩)] w (Tells (!namedB m f (o,a,b)) w):=by
 have HBel:Hid (Below w.heap.size w (w.alloc (.cells #[.int .i64 o,.int .i64 a,.int .i64 b] 44))):=(zS _ _).alloc (zQ _) _
 have hBl:=zW w _ hC.1
 have hGl:=zW w _ hD.1
 simp only at hBl hGl
 have hBn:B≠w.heap.size:=by omega
 have hGn:G≠w.heap.size:=by omega
 obtain⟨x0,x1,x2,x3,x4⟩:=hC
 obtain⟨y0,y1,y2,y3,y4⟩:=hD
 by_cases e0:o=0
 · subst e0
   have HN:Hid (namedB m f (0,a,b)=decide (a<(n3:Int))):=by show namedB _ _ _=_;simp[namedB,h0,h1,h2,h3,h4,g0,g1,g2]
   generalize namedB m f (0,a,b)=nb at*
   exact qK
 by_cases e1:o=1
 · subst e1
   have HN:Hid (namedB m f (1,a,b)=decide (a<(n4:Int))):=by show namedB _ _ _=_;simp[namedB,h0,h1,h2,h3,h4,g0,g1,g2]
   generalize namedB m f (1,a,b)=nb at*
   exact qK
 by_cases e3:o=3
 · subst e3
   have HN:Hid (namedB m f (3,a,b)=decide (a<(u0:Int)+(u1:Int))):=by show namedB _ _ _=_;simp[namedB,h0,h1,h2,h3,h4,g0,g1,g2]
   generalize namedB m f (3,a,b)=nb at*
   exact qK
 by_cases e4:o=4
 · subst e4
   have HN:Hid (namedB m f (4,a,b)=decide (a<(u0:Int)+(u1:Int))):=by show namedB _ _ _=_;simp[namedB,h0,h1,h2,h3,h4,g0,g1,g2]
   generalize namedB m f (4,a,b)=nb at*
   exact qK
 by_cases e23:o=23
 · subst e23
   have HN:Hid (namedB m f (23,a,b)=decide (a<(u2:Int))):=by show namedB _ _ _=_;simp[namedB,h0,h1,h2,h3,h4,g0,g1,g2]
   generalize namedB m f (23,a,b)=nb at*
   exact qK
 by_cases e24:o=24
 · subst e24
   have HN:Hid (namedB m f (24,a,b)=decide (a<(u2:Int))):=by show namedB _ _ _=_;simp[namedB,h0,h1,h2,h3,h4,g0,g1,g2]
   generalize namedB m f (24,a,b)=nb at*
   exact qK
 by_cases e25:o=25
 · subst e25
   have HN:Hid (namedB m f (25,a,b)=decide (a<(n1:Int))):=by show namedB _ _ _=_;simp[namedB,h0,h1,h2,h3,h4,g0,g1,g2]
   generalize namedB m f (25,a,b)=nb at*
   exact qK
 by_cases e27:o=27
 · subst e27
   have HN:Hid (namedB m f (27,a,b)=decide (a<(n2:Int))):=by show namedB _ _ _=_;simp[namedB,h0,h1,h2,h3,h4,g0,g1,g2]
   generalize namedB m f (27,a,b)=nb at*
   exact qK
 by_cases e28:o=28
 · subst e28
   have HN:Hid (namedB m f (28,a,b)=decide (a<(n0:Int))):=by show namedB _ _ _=_;simp[namedB,h0,h1,h2,h3,h4,g0,g1,g2]
   generalize namedB m f (28,a,b)=nb at*
   exact qK
 by_cases e29:o=29
 · subst e29
   by_cases hlt:a<(n0:Int)
   · obtain⟨k,rfl⟩:∃k:Nat,a=(k:Int):=⟨a.toNat,by omega⟩
     have hk:k<n0:=by omega
     obtain⟨r,hr⟩:∃r,m.recs[k]? =some r:=⟨m.recs[k]'(by rw[h0];exact hk),zM _⟩
     have HN:Hid (namedB m f (29,(k:Int),b)=decide (b<(r.length:Int))):=by show namedB _ _ _=_;simp[namedB,hr]
     obtain⟨a0,cs,ea,hab,hc,hRr⟩:=hR.at hr
     subst ea
     obtain⟨Q0,q0,rfl,-,-,-⟩:=hRr
     have cr:=zq (K:=tysL.k) rfl (hc 0 _ rfl)
     have cr2:∀o:Obj,(w.alloc o).cell? (a0.add k)=_:=fun o=>(((zS _ w).alloc (zQ _) o).cell (p:=a0.add k) qI).trans cr
     generalize namedB m f (29,(k:Int),b)=nb at*
     exact qZ
   · have HN:Hid (namedB m f (29,a,b)=false):=by
      show namedB _ _ _=_
      have hz:m.recs[a.toNat]? =none:=List.getElem?_eq_none (by rw[h0];omega)
      simp[namedB,hz]
     generalize namedB m f (29,a,b)=nb at*
     exact qf
 by_cases e30:o=30
 · subst e30
   by_cases hlt:a<(n0:Int)
   · obtain⟨k,rfl⟩:∃k:Nat,a=(k:Int):=⟨a.toNat,by omega⟩
     have hk:k<n0:=by omega
     obtain⟨r,hr⟩:∃r,m.recs[k]? =some r:=⟨m.recs[k]'(by rw[h0];exact hk),zM _⟩
     have HN:Hid (namedB m f (30,(k:Int),b)=decide (b<(r.length:Int))):=by show namedB _ _ _=_;simp[namedB,hr]
     obtain⟨a0,cs,ea,hab,hc,hRr⟩:=hR.at hr
     subst ea
     obtain⟨Q0,q0,rfl,-,-,-⟩:=hRr
     have cr:=zq (K:=tysL.k) rfl (hc 0 _ rfl)
     have cr2:∀o:Obj,(w.alloc o).cell? (a0.add k)=_:=fun o=>(((zS _ w).alloc (zQ _) o).cell (p:=a0.add k) qI).trans cr
     generalize namedB m f (30,(k:Int),b)=nb at*
     exact qZ
   · have HN:Hid (namedB m f (30,a,b)=false):=by
      show namedB _ _ _=_
      have hz:m.recs[a.toNat]? =none:=List.getElem?_eq_none (by rw[h0];omega)
      simp[namedB,hz]
     generalize namedB m f (30,a,b)=nb at*
     exact qf
 have HN:Hid (namedB m f (o,a,b)=true):=by show namedB _ _ _=_;simp[namedB,e0,e1,e3,e4,e23,e24,e25,e27,e28,e29,e30]
 have b0:(o==0)=false:=by simpa using e0
 have b1:(o==1)=false:=by simpa using e1
 have b3:(o==3)=false:=by simpa using e3
 have b4:(o==4)=false:=by simpa using e4
 have b23:(o==23)=false:=by simpa using e23
 have b24:(o==24)=false:=by simpa using e24
 have b25:(o==25)=false:=by simpa using e25
 have b27:(o==27)=false:=by simpa using e27
 have b28:(o==28)=false:=by simpa using e28
 have b29:(o==29)=false:=by simpa using e29
 have b30:(o==30)=false:=by simpa using e30
 generalize namedB m f (o,a,b)=nb at*
 clear h0 h1 h2 h3 h4 g0 g1 g2 hR e0 e1 e3 e4 e23 e24 e25 e27 e28 e29 e30
 go_enter Try.func53,Try.ntmps53
 go_wp2_with fail
 go_ret
 exact⟨by rw[HN.out];rfl,HBel.out⟩
theorem qBZ (v0 v1 v2 v3 v4 p0 p1 p2 p3 p4:Value) (w:World):
 Calls Try.prog 35 #[.agg #[v0,v1,v2,v3,v4],.agg #[p0,p1,p2,p3,p4]] w fun e w'=>
  e= .returned (.func (.func 53) #[] #[.pointer (some ⟨w.heap.size,0,none⟩),.pointer (some ⟨w.heap.size+1,0,none⟩)])∧Below w.heap.size w w'∧C5 w.heap.size v0 v1 v2 v3 v4 w'∧C5 (w.heap.size+1) p0 p1 p2 p3 p4 w':=by
 go_enter Try.func35,Try.ntmps35
 go_wp2_with fail
 go_ret
 exact⟨rfl,((zS _ _).alloc (zQ _) _).alloc (by simp) _,by simp[C5,go_sem],by simp[C5,go_sem]⟩
theorem qCA (A0 A1 A2 A3 A4:Option Addr) (n0 n1 n2 n3 n4 d0 d1 d2 d3 d4:Nat) (m:Mod) (B:Nat) (x:Fn) (w:World) (h0:m.recs.length=n0) (h1:m.funcs.length=n1) (h2:m.imps.length=n2) (h3:m.ints.length=n3) (h4:m.texts.length=n4)
 (hn0:n0≤9223372036854775807) (hR:Sq tysL (·<w.heap.size) w A0 m.recs) (hC:C5 B (.slice A0 n0 d0) (.slice A1 n1 d1) (.slice A2 n2 d2) (.slice A3 n3 d3) (.slice A4 n4 d4) w)
 (cs:List Value) (hr:fnL.R (·<w.heap.size) w cs x) (hx:fnOk n0 x=true):
 Calls Try.prog 31 #[vAgg cs,.pointer (some ⟨B,0,none⟩)] w (Tells (badFn m x) w):=by
 obtain⟨z1,z2,z3,z4,-,-,-,z8⟩:=qAk hx
 obtain⟨p0,p1,p2,rfl,i1,i2,⟨P0,c0,e4,l4,m4,s4⟩,⟨P1,c1,e5,l5,m5,s5⟩,⟨P2,c2,e6,l6,m6,s6⟩⟩:=hr
 simp only[List.cons.injEq,and_true] at e4 e5 e6
 subst e4 e5 e6
 obtain⟨u0,g0⟩:∃n,x.args.length=n:=⟨_,rfl⟩
 obtain⟨u1,g1⟩:∃n,x.locs.length=n:=⟨_,rfl⟩
 obtain⟨u2,g2⟩:∃n,x.code.length=n:=⟨_,rfl⟩
 show Calls Try.prog 31 #[.agg #[.slice P0 x.args.length c0,.int .i64 x.ret.1,.int .i64 x.ret.2,.slice P1 x.locs.length c1,.slice P2 x.code.length c2],.pointer (some ⟨B,0,none⟩)] w (Tells (badFn m x) w)
 rw[g0,g1,g2]
 have T0:Hid (∀w1,Below w.heap.size w w1→Calls Try.prog 32 #[.slice P1 u1 c1,.func (.func 33) #[] #[]] w1 (Tells (x.locs.any hanB) w1)):=fun w1 hb=>
  qBE P1 u1 c1 x.locs hanB w1 g1 ((s5.keep fun b hb1=>hb.block b hb1).wide fun b hb1=>zP hb1 hb.size) (by omega) fun w2 cs y _ _ hr=>qAw y w2 cs hr
 have T2:Hid (∀w1 (p7 p8:Nat),Below w.heap.size w w1→C5 p7 (.slice A0 n0 d0) (.slice A1 n1 d1) (.slice A2 n2 d2) (.slice A3 n3 d3) (.slice A4 n4 d4) w1→C5 p8 (.slice P0 u0 c0) (.int .i64 x.ret.1) (.int .i64 x.ret.2) (.slice P1 u1 c1) (.slice P2 u2 c2) w1→
  Calls Try.prog 34 #[.slice P2 u2 c2,.func (.func 53) #[] #[.pointer (some ⟨p7,0,none⟩),.pointer (some ⟨p8,0,none⟩)]] w1 (Tells (x.code.any fun i=> !namedB m x i) w1)):=fun w1 p7 p8 hb hc1 hc2=>
  qBD P2 u2 c2 x.code (fun i=> !namedB m x i) ⟨p7,0,none⟩ ⟨p8,0,none⟩ w1 g2 ((s6.keep fun b hb1=>hb.block b hb1).wide fun b hb1=>zP hb1 hb.size) (by omega) fun w2 cs y hb2 hy hr=>by
   obtain⟨rfl,-⟩:=hr
   obtain⟨o,a,b⟩:=y
   obtain⟨o1,a1,b1,e1,e2,e3,q1,q2,q3⟩:=zv (op:=o) (a:=a) (b:=b) (z8 _ hy)
   have hb3:Below w.heap.size w w2:=hb.trans (hb2.mono hb.size)
   exact qA8 A0 A1 A2 A3 A4 P0 P1 P2 n0 n1 n2 n3 n4 d0 d1 d2 d3 d4 u0 u1 u2 c0 c1 c2 x.ret.1 x.ret.2 m x o a b w2 p7 p8 h0 h1 h2 h3 h4 g0 g1 g2 hn0 (by omega) (by omega) (by omega) (by omega) ((hR.keep fun b hb1=>hb3.block b hb1).wide fun b hb1=>zP hb1 hb3.size)
    (hc1.below hb2 (zW w1 _ hc1.1)) (hc2.below hb2 (zW w1 _ hc2.1))
 have HO:Hid (badFn m x=(x.locs.any hanB || x.code.any fun i=> !namedB m x i)):=rfl
 have HB0:Hid (Below w.heap.size w (w.alloc (.cells #[.slice P0 u0 c0,.int .i64 x.ret.1,.int .i64 x.ret.2,.slice P1 u1 c1,.slice P2 u2 c2] 47))):=(zS _ _).alloc (zQ _) _
 have HC0:Hid (C5 B (.slice A0 n0 d0) (.slice A1 n1 d1) (.slice A2 n2 d2) (.slice A3 n3 d3) (.slice A4 n4 d4) (w.alloc (.cells #[.slice P0 u0 c0,.int .i64 x.ret.1,.int .i64 x.ret.2,.slice P1 u1 c1,.slice P2 u2 c2] 47))∧C5 w.heap.size (.slice P0 u0 c0) (.int .i64 x.ret.1) (.int .i64 x.ret.2) (.slice P1 u1 c1) (.slice P2 u2 c2) (w.alloc (.cells #[.slice P0 u0 c0,.int .i64 x.ret.1,.int .i64 x.ret.2,.slice P1 u1 c1,.slice P2 u2 c2] 47))):=
  ⟨hC.below HB0.out (zW w _ hC.1),by simp[C5,go_sem]⟩
 have hBl:=zW w _ hC.1
 simp only at hBl
 clear g0 g1 g2 h0 h1 h2 h3 h4 hR hC i1 i2 s4 s5 s6 l4 l5 l6 m4 m5 m6 z8 hx
 generalize badFn m x=gd at*
 generalize x.locs.any hanB=b1 at*
 generalize (x.code.any fun i=> !namedB m x i)=b2 at*
 generalize x.ret.1=k1 at*
 generalize x.ret.2=k2 at*
 go_enter Try.func31,Try.ntmps31
 go_wp2_with fail
 refine zi fun W hW=> ?_
 rw[←hW] at HB0 HC0
 have hs:w.heap.size<W.heap.size:=by rw[hW];simp
 clear hW
 have HKK:Hid (∀w1,Below W.heap.size W w1→C5 B (.slice A0 n0 d0) (.slice A1 n1 d1) (.slice A2 n2 d2) (.slice A3 n3 d3) (.slice A4 n4 d4) w1∧C5 w.heap.size (.slice P0 u0 c0) (.int .i64 k1) (.int .i64 k2) (.slice P1 u1 c1) (.slice P2 u2 c2) w1):=fun w1 hb=>⟨HC0.out.1.below hb (by omega),HC0.out.2.below hb hs⟩
 obtain⟨⟨x0,x1,x2,x3,x4⟩,y0,y1,y2,y3,y4⟩:=HC0.out
 cases b1
 all_goals
  first|(go_region_with (first
   |(go_at_call 32
     refine(T0.out _ HB0.out.drew).mono ?_
     rintro e w1 ⟨rfl,hb1⟩
     have HX1:=zL (((zS W.heap.size W).drew).trans hb1)
     have HB1:=zL (HB0.out.trans (HX1.out.mono HB0.out.size))
     obtain⟨⟨q0,q1,q2,q3,q4⟩,t0,t1,t2,t3,t4⟩:=HKK.out w1 HX1.out
     clear hb1)
   |(go_at_call 35
     refine(qBZ _ _ _ _ _ _ _ _ _ _ _).mono ?_
     rintro e w2 ⟨rfl,hb2,hc2,hc3⟩
     have HX2:=zL (HX1.out.trans (hb2.mono HX1.out.size))
     have HB2:=zL (HB0.out.trans (HX2.out.mono HB0.out.size))
     obtain⟨⟨r0,r1,r2,r3,r4⟩,s0,s1,s2,s3,s4⟩:=HKK.out w2 HX2.out
     have HM2:=zL hc2
     have HM3:=zL hc3
     clear hb2 hc2 hc3)
   |(go_at_call 34
     refine(T2.out _ _ _ HB2.out HM2.out HM3.out).mono ?_
     rintro e w3 ⟨rfl,hb3⟩
     have HX3:=zL (HX2.out.trans (hb3.mono HX2.out.size))
     have HB3:=zL (HB0.out.trans (HX3.out.mono HB0.out.size))
     clear hb3)))|fail
 all_goals
  go_wp2_with fail
  go_ret
  first|exact⟨by rw[HO.out];rfl,HB3.out⟩|exact⟨by rw[HO.out];rfl,HB1.out⟩
theorem qCo (A:Option Addr) (n c:Nat) (xs:List Fn) (g:Fn→Bool) (p7:Addr) (w:World) (hl:xs.length=n) (h:Sq fnL (·<w.heap.size) w A xs) (hn2:n≤9223372036854775807)
 (hG:∀(w1:World) (cs:List Value) (x:Fn),Below w.heap.size w w1→x∈xs→fnL.R (·<w1.heap.size) w1 cs x→Calls Try.prog 31 #[vAgg cs,.pointer (some p7)] w1 (Tells (g x) w1)):
 Calls Try.prog 54 #[.slice A n c,.func (.func 31) #[] #[.pointer (some p7)]] w fun e w'=>∃k:Int,e= .returned (.int .i64 k)∧decide (0≤k)=xs.any g∧Below w.heap.size w w':=by
 have HL:=zL hl
 have HS:=zL h
 have HP0:=zL hG
 clear hl h hG
 go_enter Try.func54,Try.ntmps54
 go_wp2_with fail
 go_loopw [8] (fun i wr=>∃k:Nat,k≤n∧i= .int .i64 (k:Nat)∧(xs.take k).any g=false∧Below w.heap.size w wr) (fun i _=>n-(intOf i).toNat)
 case atStart=>exact⟨0,zY _,rfl,by simp,zS _ _⟩
 case round=>
  obtain⟨k,hk,rfl,hall,hbel⟩:=hrel
  have HA:=zL hall
  have HB:=zL hbel
  have hs:=hbel.size
  clear hall hbel
  by_cases hlt:k<n
  · skip
    obtain⟨x,hx⟩:∃x,xs[k]? =some x:=⟨xs[k]'qR,zM _⟩
    have hmem:x∈xs:=zT hx
    obtain⟨a,cs,rfl,hab,hc,hr⟩:=HS.out.at hx
    have HX:=zL hx
    clear hx
    have HR:=zL hr
    obtain⟨p0,p1,p2,rfl,-,-,⟨A4,d4,e4,-⟩,⟨A5,d5,e5,-⟩,⟨A6,d6,e6,-⟩⟩:=hr
    simp only[List.cons.injEq,and_true] at e4 e5 e6
    subst e4 e5 e6
    have c0:=(HB.out.cell (p:=a.add (k*5)) qI).trans (hc 0 _ rfl)
    have c1:=(HB.out.cell (p:=a.add (k*5+1)) qI).trans (hc 1 _ rfl)
    rw[zV a (k*5) 1 (by omega)] at c1
    have c2:=(HB.out.cell (p:=a.add (k*5+2)) qI).trans (hc 2 _ rfl)
    rw[zV a (k*5) 2 (by omega)] at c2
    have c3:=(HB.out.cell (p:=a.add (k*5+3)) qI).trans (hc 3 _ rfl)
    rw[zV a (k*5) 3 (by omega)] at c3
    have c4:=(HB.out.cell (p:=a.add (k*5+4)) qI).trans (hc 4 _ rfl)
    rw[zV a (k*5) 4 (by omega)] at c4
    have HP:Hid (∀w1,Below w.heap.size w w1→Calls Try.prog 31 #[.agg #[.slice A4 x.args.length d4,.int .i64 x.ret.1,.int .i64 x.ret.2,.slice A5 x.locs.length d5,.slice A6 x.code.length d6],.pointer (some p7)] w1 (Tells (g x) w1)):=fun w1 hb=>HP0.out w1 [.slice A4 x.args.length d4,.int .i64 x.ret.1,.int .i64 x.ret.2,.slice A5 x.locs.length d5,.slice A6 x.code.length d6] x hb hmem (fnL.wide (fnL.keep HR.out fun b hb1=>hb.block b hb1) fun b hb1=>zP hb1 hb.size)
    clear hc
    have hk0:0≤(k:Int):=by omega
    cases hg:g x
    · rw[hg] at HP
      have HG:=zL hg
      clear hg
      go_wp2_with (first
       |(go_at_call 31
         refine(HP.out _ HB.out).mono ?_
         rintro e w2 ⟨rfl,hb2⟩
         have Hb2:=zL (HB.out.trans (hb2.mono hs))
         clear hb2))
      exact qa
    · rw[hg] at HP
      have e:xs.any g=true:=jm hmem hg
      have E:=zL e
      clear e hg
      go_wp2_with (first
       |(go_at_call 31
         refine(HP.out _ HB.out).mono ?_
         rintro e w2 ⟨rfl,hb2⟩
         have Hb2:=zL (HB.out.trans (hb2.mono hs))
         clear hb2))
      exact qy
  · exact qX
theorem qBG (A:Option Addr) (n c:Nat) (xs:List Fn) (g:Fn→Bool) (p7:Addr) (w:World) (hl:xs.length=n) (h:Sq fnL (·<w.heap.size) w A xs) (hn2:n≤9223372036854775807)
 (hG:∀(w1:World) (cs:List Value) (x:Fn),Below w.heap.size w w1→x∈xs→fnL.R (·<w1.heap.size) w1 cs x→Calls Try.prog 31 #[vAgg cs,.pointer (some p7)] w1 (Tells (g x) w1)):
 Calls Try.prog 36 #[.slice A n c,.func (.func 31) #[] #[.pointer (some p7)]] w (Tells (xs.any g) w):=by
 have HC:=zL (qCo A n c xs g p7 w hl h hn2 hG)
 clear hl h hG
 generalize xs.any g=ab at*
 go_enter Try.func36,Try.ntmps36
 go_wp2_with (first|(go_at_call 54;refine HC.out.mono ?_;rintro e w1 ⟨k,rfl,hk,hb⟩;have HB:=zL hb;have HK:=zL hk;clear hb hk))
 go_ret
 exact⟨by rw[←HK.out];rfl,HB.out⟩
theorem qCn (A:Option Addr) (n c:Nat) (xs:List Imp) (g:Imp→Bool) (w:World) (hl:xs.length=n) (h:Sq impL (·<w.heap.size) w A xs) (hn2:n≤9223372036854775807)
 (hG:∀(w1:World) (cs:List Value) (x:Imp),Below w.heap.size w w1→x∈xs→impL.R (·<w1.heap.size) w1 cs x→Calls Try.prog 38 #[vAgg cs] w1 (Tells (g x) w1)):
 Calls Try.prog 55 #[.slice A n c,.func (.func 38) #[] #[]] w fun e w'=>∃k:Int,e= .returned (.int .i64 k)∧decide (0≤k)=xs.any g∧Below w.heap.size w w':=by
 have HL:=zL hl
 have HS:=zL h
 have HP0:=zL hG
 clear hl h hG
 go_enter Try.func55,Try.ntmps55
 go_wp2_with fail
 go_loopw [8] (fun i wr=>∃k:Nat,k≤n∧i= .int .i64 (k:Nat)∧(xs.take k).any g=false∧Below w.heap.size w wr) (fun i _=>n-(intOf i).toNat)
 case atStart=>exact⟨0,zY _,rfl,by simp,zS _ _⟩
 case round=>
  obtain⟨k,hk,rfl,hall,hbel⟩:=hrel
  have HA:=zL hall
  have HB:=zL hbel
  have hs:=hbel.size
  clear hall hbel
  by_cases hlt:k<n
  · skip
    obtain⟨x,hx⟩:∃x,xs[k]? =some x:=⟨xs[k]'qR,zM _⟩
    have hmem:x∈xs:=zT hx
    obtain⟨a,cs,rfl,hab,hc,hr⟩:=HS.out.at hx
    have HX:=zL hx
    clear hx
    have HR:=zL hr
    obtain⟨p0,rfl,-,-,⟨A4,d4,e4,-⟩⟩:=hr
    simp only[List.cons.injEq,and_true] at e4
    subst e4
    have c0:=(HB.out.cell (p:=a.add (k*3)) qI).trans (hc 0 _ rfl)
    have c1:=(HB.out.cell (p:=a.add (k*3+1)) qI).trans (hc 1 _ rfl)
    rw[zV a (k*3) 1 (by omega)] at c1
    have c2:=(HB.out.cell (p:=a.add (k*3+2)) qI).trans (hc 2 _ rfl)
    rw[zV a (k*3) 2 (by omega)] at c2
    have HP:Hid (∀w1,Below w.heap.size w w1→Calls Try.prog 38 #[.agg #[.slice A4 x.args.length d4,.int .i64 x.ret.1,.int .i64 x.ret.2]] w1 (Tells (g x) w1)):=fun w1 hb=>HP0.out w1 [.slice A4 x.args.length d4,.int .i64 x.ret.1,.int .i64 x.ret.2] x hb hmem (impL.wide (impL.keep HR.out fun b hb1=>hb.block b hb1) fun b hb1=>zP hb1 hb.size)
    clear hc
    have hk0:0≤(k:Int):=by omega
    cases hg:g x
    · rw[hg] at HP
      have HG:=zL hg
      clear hg
      go_wp2_with (first
       |(go_at_call 38
         refine(HP.out _ HB.out).mono ?_
         rintro e w2 ⟨rfl,hb2⟩
         have Hb2:=zL (HB.out.trans (hb2.mono hs))
         clear hb2))
      exact qa
    · rw[hg] at HP
      have e:xs.any g=true:=jm hmem hg
      have E:=zL e
      clear e hg
      go_wp2_with (first
       |(go_at_call 38
         refine(HP.out _ HB.out).mono ?_
         rintro e w2 ⟨rfl,hb2⟩
         have Hb2:=zL (HB.out.trans (hb2.mono hs))
         clear hb2))
      exact qy
  · exact qX
theorem qBF (A:Option Addr) (n c:Nat) (xs:List Imp) (g:Imp→Bool) (w:World) (hl:xs.length=n) (h:Sq impL (·<w.heap.size) w A xs) (hn2:n≤9223372036854775807)
 (hG:∀(w1:World) (cs:List Value) (x:Imp),Below w.heap.size w w1→x∈xs→impL.R (·<w1.heap.size) w1 cs x→Calls Try.prog 38 #[vAgg cs] w1 (Tells (g x) w1)):
 Calls Try.prog 37 #[.slice A n c,.func (.func 38) #[] #[]] w (Tells (xs.any g) w):=by
 have HC:=zL (qCn A n c xs g w hl h hn2 hG)
 clear hl h hG
 generalize xs.any g=ab at*
 go_enter Try.func37,Try.ntmps37
 go_wp2_with (first|(go_at_call 55;refine HC.out.mono ?_;rintro e w1 ⟨k,rfl,hk,hb⟩;have HB:=zL hb;have HK:=zL hk;clear hb hk))
 go_ret
 exact⟨by rw[←HK.out];rfl,HB.out⟩
theorem qBm (A:Option Addr) (n c:Nat) (xs:List Typ) (lo hi:Int) (g:Typ→Bool) (p7:Addr) (w:World) (hl:xs.length=n) (h:Sq typL (·<w.heap.size) w A xs) (hn2:n≤9223372036854775807) (hlo: -1000≤lo∧lo≤1000) (hhi: -9223372036854775808≤hi∧hi≤1000)
 (hG:∀(w1:World) (cs:List Value) (x:Typ),Below w.heap.size w w1→x∈xs→typL.R (·<w1.heap.size) w1 cs x→Calls Try.prog 57 #[vAgg cs,.pointer (some p7)] w1 (Tells (g x) w1)):
 Calls Try.prog 60 #[.slice A n c,.int .i64 lo,.int .i64 hi,.func (.func 57) #[] #[.pointer (some p7)]] w (Tells (witB lo hi g xs) w):=by
 have HL:=zL hl
 have HS:=zL h
 have HP0:=zL hG
 have HW:Hid (witB lo hi g xs=(decide (lo≤(n:Int)∧(n:Int)≤hi) && xs.all g)):=by rw[←hl];exact rfl
 clear hl h hG
 obtain⟨wb,hwb⟩:∃wb,witB lo hi g xs=wb:=⟨_,rfl⟩
 rw[hwb] at HW⊢
 clear hwb
 by_cases h1:(n:Int)<lo
 · have e:wb=false:=by rw[HW.out];simp;omega
   rw[e]
   clear HW e
   go_enter Try.func60,Try.ntmps60
   exact qU
 by_cases h2:hi<(n:Int)
 · have e:wb=false:=by rw[HW.out];simp;omega
   rw[e]
   clear HW e
   go_enter Try.func60,Try.ntmps60
   exact qU
 replace HW:Hid (wb=xs.all g):=by
  show wb=xs.all g
  rw[HW.out]
  simp
  omega
 go_enter Try.func60,Try.ntmps60
 go_wp2_with fail
 go_loopw [23] (fun i wr=>∃k:Nat,k≤n∧i= .int .i64 (k:Nat)∧(xs.take k).all g=true∧Below w.heap.size w wr) (fun i _=>n-(intOf i).toNat)
 case atStart=>exact⟨0,zY _,rfl,by simp,zS _ _⟩
 case round=>
  obtain⟨k,hk,rfl,hall,hbel⟩:=hrel
  have HA:=zL hall
  have HB:=zL hbel
  have hs:=hbel.size
  clear hall hbel
  by_cases hlt:k<n
  · skip
    obtain⟨x,hx⟩:∃x,xs[k]? =some x:=⟨xs[k]'qR,zM _⟩
    have hmem:x∈xs:=zT hx
    obtain⟨a,cs,rfl,hab,hc,hr⟩:=HS.out.at hx
    have HX:=zL hx
    clear hx
    have HR:=zL hr
    obtain⟨rfl,-,-⟩:=hr
    have c0:=(HB.out.cell (p:=a.add (k*2)) qI).trans (hc 0 _ rfl)
    have c1:=(HB.out.cell (p:=a.add (k*2+1)) qI).trans (hc 1 _ rfl)
    rw[zV a (k*2) 1 (by omega)] at c1
    have HP:Hid (∀w1,Below w.heap.size w w1→Calls Try.prog 57 #[.agg #[.int .i64 x.1,.int .i64 x.2],.pointer (some p7)] w1 (Tells (g x) w1)):=fun w1 hb=>HP0.out w1 [.int .i64 x.1,.int .i64 x.2] x hb hmem (typL.wide (typL.keep HR.out fun b hb1=>hb.block b hb1) fun b hb1=>zP hb1 hb.size)
    clear hc
    cases hg:g x
    · rw[hg] at HP
      have e:wb=false:=by
       rw[HW.out,List.all_eq_false]
       exact⟨x,hmem,by rw[hg];simp⟩
      have E:=zL e
      clear e hg
      go_wp2_with (first
       |(go_at_call 57
         refine(HP.out _ (HB.out.alloc hs _)).mono ?_
         rintro e w2 ⟨rfl,hb2⟩
         have Hb2:=zL ((HB.out.alloc hs _).trans (hb2.mono qT))
         clear hb2))
      exact qt
    · rw[hg] at HP
      have HG:=zL hg
      clear hg
      go_wp2_with (first
       |(go_at_call 57
         refine(HP.out _ (HB.out.alloc hs _)).mono ?_
         rintro e w2 ⟨rfl,hb2⟩
         have Hb2:=zL ((HB.out.alloc hs _).trans (hb2.mono qT))
         clear hb2))
      exact qV
  · exact qM
theorem qBp (A:Option Addr) (n c:Nat) (xs:List Ins) (lo hi:Int) (g:Ins→Bool) (w:World) (hl:xs.length=n) (h:Sq insL (·<w.heap.size) w A xs) (hn2:n≤9223372036854775807) (hlo: -1000≤lo∧lo≤1000) (hhi: -9223372036854775808≤hi∧hi≤1000)
 (hG:∀(w1:World) (cs:List Value) (x:Ins),Below w.heap.size w w1→x∈xs→insL.R (·<w1.heap.size) w1 cs x→Calls Try.prog 64 #[vAgg cs] w1 (Tells (g x) w1)):
 Calls Try.prog 63 #[.slice A n c,.int .i64 lo,.int .i64 hi,.func (.func 64) #[] #[]] w (Tells (witB lo hi g xs) w):=by
 have HL:=zL hl
 have HS:=zL h
 have HP0:=zL hG
 have HW:Hid (witB lo hi g xs=(decide (lo≤(n:Int)∧(n:Int)≤hi) && xs.all g)):=by rw[←hl];exact rfl
 clear hl h hG
 obtain⟨wb,hwb⟩:∃wb,witB lo hi g xs=wb:=⟨_,rfl⟩
 rw[hwb] at HW⊢
 clear hwb
 by_cases h1:(n:Int)<lo
 · have e:wb=false:=by rw[HW.out];simp;omega
   rw[e]
   clear HW e
   go_enter Try.func63,Try.ntmps63
   exact qU
 by_cases h2:hi<(n:Int)
 · have e:wb=false:=by rw[HW.out];simp;omega
   rw[e]
   clear HW e
   go_enter Try.func63,Try.ntmps63
   exact qU
 replace HW:Hid (wb=xs.all g):=by
  show wb=xs.all g
  rw[HW.out]
  simp
  omega
 go_enter Try.func63,Try.ntmps63
 go_wp2_with fail
 go_loopw [23] (fun i wr=>∃k:Nat,k≤n∧i= .int .i64 (k:Nat)∧(xs.take k).all g=true∧Below w.heap.size w wr) (fun i _=>n-(intOf i).toNat)
 case atStart=>exact⟨0,zY _,rfl,by simp,zS _ _⟩
 case round=>
  obtain⟨k,hk,rfl,hall,hbel⟩:=hrel
  have HA:=zL hall
  have HB:=zL hbel
  have hs:=hbel.size
  clear hall hbel
  by_cases hlt:k<n
  · skip
    obtain⟨x,hx⟩:∃x,xs[k]? =some x:=⟨xs[k]'qR,zM _⟩
    have hmem:x∈xs:=zT hx
    obtain⟨a,cs,rfl,hab,hc,hr⟩:=HS.out.at hx
    have HX:=zL hx
    clear hx
    have HR:=zL hr
    obtain⟨rfl,-,-,-⟩:=hr
    have c0:=(HB.out.cell (p:=a.add (k*3)) qI).trans (hc 0 _ rfl)
    have c1:=(HB.out.cell (p:=a.add (k*3+1)) qI).trans (hc 1 _ rfl)
    rw[zV a (k*3) 1 (by omega)] at c1
    have c2:=(HB.out.cell (p:=a.add (k*3+2)) qI).trans (hc 2 _ rfl)
    rw[zV a (k*3) 2 (by omega)] at c2
    have HP:Hid (∀w1,Below w.heap.size w w1→Calls Try.prog 64 #[.agg #[.int .i64 x.1,.int .i64 x.2.1,.int .i64 x.2.2]] w1 (Tells (g x) w1)):=fun w1 hb=>HP0.out w1 [.int .i64 x.1,.int .i64 x.2.1,.int .i64 x.2.2] x hb hmem (insL.wide (insL.keep HR.out fun b hb1=>hb.block b hb1) fun b hb1=>zP hb1 hb.size)
    clear hc
    cases hg:g x
    · rw[hg] at HP
      have e:wb=false:=by
       rw[HW.out,List.all_eq_false]
       exact⟨x,hmem,by rw[hg];simp⟩
      have E:=zL e
      clear e hg
      go_wp2_with (first
       |(go_at_call 64
         refine(HP.out _ (HB.out.alloc hs _)).mono ?_
         rintro e w2 ⟨rfl,hb2⟩
         have Hb2:=zL ((HB.out.alloc hs _).trans (hb2.mono qT))
         clear hb2))
      exact qt
    · rw[hg] at HP
      have HG:=zL hg
      clear hg
      go_wp2_with (first
       |(go_at_call 64
         refine(HP.out _ (HB.out.alloc hs _)).mono ?_
         rintro e w2 ⟨rfl,hb2⟩
         have Hb2:=zL ((HB.out.alloc hs _).trans (hb2.mono qT))
         clear hb2))
      exact qV
  · exact qM
theorem kgood (k n r:Int) (w:World):Calls Try.prog 58 #[.agg #[.int .i64 k,.int .i64 n],.int .i64 r] w fun e w'=>e= .returned (.bool (goodB k n r))∧Below w.heap.size w w':=by
 by_cases h1:k=1
 · subst h1
   exact qi
 by_cases h2:k=2
 · subst h2
   exact qi
 by_cases h3:k=3
 · subst h3
   exact qi
 by_cases h7:k=7
 · subst h7
   exact qi
 by_cases h4:k=4
 · subst h4
   by_cases hn:0≤n
   · have e:goodB 4 n r=decide (n<r):=by simp[goodB,hn]
     rw[e]
     clear e
     exact qi
   · have e:goodB 4 n r=false:=by simp[goodB,hn]
     rw[e]
     clear e
     exact qi
 by_cases h5:k=5
 · subst h5
   by_cases hn:0≤n
   · have e:goodB 5 n r=decide (n<4):=by simp[goodB,hn]
     rw[e]
     clear e
     exact qi
   · have e:goodB 5 n r=false:=by simp[goodB,hn]
     rw[e]
     clear e
     exact qi
 have e:goodB k n r=false:=by simp[goodB,h1,h2,h3,h7,h4,h5]
 rw[e]
 clear e
 go_enter Try.func58,Try.ntmps58
 go_wp2_with fail
 go_ret
 exact⟨rfl,(zS _ _).alloc (zQ _) _⟩
theorem qAB (op:Int) (w:World):Calls Try.prog 80 #[.int .i64 op] w fun e w'=>e= .returned (.int .i64 (argN op))∧w=w':=by
 by_cases hc:op=29∨op=30∨op=0∨op=1∨op=3∨op=4∨op=23∨op=24∨op=25∨op=27∨op=28
 · rcases hc with rfl|rfl|rfl|rfl|rfl|rfl|rfl|rfl|rfl|rfl|rfl
   all_goals
    go_enter Try.func80,Try.ntmps80
    go_wp2_with fail
    go_ret
    exact⟨rfl,rfl⟩
 · obtain⟨n29,n30,n0,n1,n3,n4,n23,n24,n25,n27,n28⟩:op≠29∧op≠30∧op≠0∧op≠1∧op≠3∧op≠4∧op≠23∧op≠24∧op≠25∧op≠27∧op≠28:=by omega
   clear hc
   by_cases hlo:op<0
   · exact qu
   by_cases hhi:42≤op
   · exact qu
   have e:argN op=0:=by unfold argN;rw[if_neg (by omega),if_neg (by omega),if_neg (by omega)]
   rw[e]
   clear e
   go_enter Try.func80,Try.ntmps80
   go_wp2_with fail
   go_ret
   exact⟨rfl,rfl⟩
end Go.Proofs.Ytconajaecpgjgaa
