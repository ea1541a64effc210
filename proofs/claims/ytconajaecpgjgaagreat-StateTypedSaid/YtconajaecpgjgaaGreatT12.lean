/-
Eqnum Eqoct Sme Eqhnd Effrm Efob Gm An14
-/
import Derived.Test.YtconajaecpgjgaaGreatT01
import Derived.Test.YtconajaecpgjgaaGreatT02
import Derived.Test.YtconajaecpgjgaaGreatT06
import Derived.Test.YtconajaecpgjgaaGreatT08
import Derived.Test.YtconajaecpgjgaaGreatT09
import Derived.Test.YtconajaecpgjgaaGreatT10
import Derived.Test.YtconajaecpgjgaaGreatT11
import Derived.BigQuiet
import Derived.Laws.Strings
import Derived.Deep.QuietTactic
set_option linter.unusedSimpArgs false
set_option linter.unusedVariables false
set_option maxRecDepth 100000
set_option maxHeartbeats 4000000
namespace Go.Proofs.YtconajaecpgjgaaGreat
open Go.RowKit
theorem qe {P:Prop} (h:P:=by
 clear hc hc2
 have k0:0≤(k:Int):=by omega
 have k1:(k:Int)<(n:Int):=by omega
 by_cases hxy:x=y
 · have HXY:=qAZ hxy
   have t1:((x:Int)==(y:Int))=true:=by simp;omega
   have t2:((x:Int) != (y:Int))=false:=by simp;omega
   have t3:(x==y)=true:=by simp;omega
   have t4:(x != y)=false:=by simp;omega
   clear  hxy
   go_wp2_with fail
   go_quiet (fail)
   go_wp2_with fail
   refine⟨⟨k+1,_,by omega,by simp,qCs HE.out HX.out HY.out HXY.out,rfl⟩,by simp[intOf];omega⟩
 · have HXY:=qAZ hxy
   have t1:((x:Int)==(y:Int))=false:=by simp;omega
   have t2:((x:Int) != (y:Int))=true:=by simp;omega
   have t3:(x==y)=false:=by simp;omega
   have t4:(x != y)=true:=by simp;omega
   go_wp2_with fail
   go_quiet (fail)
   go_wp2_with fail
   go_ret
   exact⟨by rw[qDA (qE7 HX.out HY.out HXY.out)];rfl,_,World.drewN_drewN _ _ _⟩):P:=h
theorem zd {P:Prop} (h:P:=by
 go_wp2_with fail
 go_ret
 exact⟨by simp[b3],HB0.out⟩):P:=h
theorem jL {P:Prop} (h:P:=by
 go_wp2_with fail
 go_quiet (fail)
 go_wp2_with fail
 go_ret
 exact⟨by rw[decide_eq_false hout.out];rfl,_,World.drewN_drewN _ _ _⟩):P:=h
theorem qDR (A B:Option Addr) (n m c d:Nat) (xs ys:List Nat) (w:World) (S T:Nat→Prop) (hl:xs.length=n) (hm:ys.length=m) (h:Sq numL S w A xs) (h':Sq numL T w B ys) (hn2:n≤9223372036854775807) (hm2:m≤9223372036854775807):
 Calls Tryz.prog 70 #[.slice A n c,.slice B m d] w fun e w'=>e= .returned (.bool (eqB xs ys))∧∃q,w'=w.drewN q:=by
 have HL:=qAZ hl
 have HM:=qAZ hm
 have HS:=qAZ h
 have HT:=qAZ h'
 clear hl hm h h'
 by_cases hnm:n=m
 · subst hnm
   go_enter Tryz.func70,Tryz.ntmps70
   go_wp2_with fail
   go_loopw [13] (fun i wr=>∃k q:Nat,k≤n∧i= .int .i64 (k:Nat)∧xs.take k=ys.take k∧wr=w.drewN q) (fun i _=>n-(intOf i).toNat)
   case atStart=>exact⟨0,0,qAs _,rfl,by simp,rfl⟩
   case round=>
    obtain⟨k,q,hk,rfl,heq,rfl⟩:=hrel
    have HE:=qAZ heq
    clear heq
    by_cases hlt:k<n
    · skip
      obtain⟨x,hx⟩:∃x,xs[k]? =some x:=⟨xs[k]'qd,qAa _⟩
      obtain⟨y,hy⟩:∃y,ys[k]? =some y:=⟨ys[k]'jX,qAa _⟩
      obtain⟨a,cs,rfl,hab,hc,hr⟩:=HS.out.at hx
      obtain⟨b,cs2,rfl,hbb,hc2,hr2⟩:=HT.out.at hy
      have HX:=qAZ hx
      have HY:=qAZ hy
      clear hx hy
      obtain⟨rfl,-⟩:=hr
      obtain⟨rfl,-⟩:=hr2
      have c0:=qBC (K:=numL.k) rfl (hc 0 _ rfl)
      have e0:=qBC (K:=numL.k) rfl (hc2 0 _ rfl)
      exact qe
    · obtain rfl:k=n:=by omega
      go_wp2_with fail
      go_ret
      refine⟨?_,_,rfl⟩
      exact jF
 · have h1:((n:Int) != (m:Int))=true:=by simp;omega
   have h2:(n != m)=true:=by simpa using hnm
   have HNM:=qAZ hnm
   clear hnm
   go_enter Tryz.func70,Tryz.ntmps70
   go_wp2_with fail
   go_ret
   refine⟨?_,0,rfl⟩
   rw[qDA (fun e=>HNM.out jS)]
   rfl
theorem qHt (A B:Option Addr) (n m c d:Nat) (xs ys:List Nat) (w:World) (S T:Nat→Prop) (hl:xs.length=n) (hm:ys.length=m) (h:Sq octL S w A xs) (h':Sq octL T w B ys) (hn2:n≤9223372036854775807) (hm2:m≤9223372036854775807):
 Calls Tryz.prog 71 #[.slice A n c,.slice B m d] w fun e w'=>e= .returned (.bool (eqB xs ys))∧∃q,w'=w.drewN q:=by
 have HL:=qAZ hl
 have HM:=qAZ hm
 have HS:=qAZ h
 have HT:=qAZ h'
 clear hl hm h h'
 by_cases hnm:n=m
 · subst hnm
   go_enter Tryz.func71,Tryz.ntmps71
   go_wp2_with fail
   go_loopw [13] (fun i wr=>∃k q:Nat,k≤n∧i= .int .i64 (k:Nat)∧xs.take k=ys.take k∧wr=w.drewN q) (fun i _=>n-(intOf i).toNat)
   case atStart=>exact⟨0,0,qAs _,rfl,by simp,rfl⟩
   case round=>
    obtain⟨k,q,hk,rfl,heq,rfl⟩:=hrel
    have HE:=qAZ heq
    clear heq
    by_cases hlt:k<n
    · skip
      obtain⟨x,hx⟩:∃x,xs[k]? =some x:=⟨xs[k]'qd,qAa _⟩
      obtain⟨y,hy⟩:∃y,ys[k]? =some y:=⟨ys[k]'jX,qAa _⟩
      obtain⟨a,cs,rfl,hab,hc,hr⟩:=HS.out.at hx
      obtain⟨b,cs2,rfl,hbb,hc2,hr2⟩:=HT.out.at hy
      have HX:=qAZ hx
      have HY:=qAZ hy
      clear hx hy
      obtain⟨rfl,-⟩:=hr
      obtain⟨rfl,-⟩:=hr2
      have c0:=qBC (K:=octL.k) rfl (hc 0 _ rfl)
      have e0:=qBC (K:=octL.k) rfl (hc2 0 _ rfl)
      exact qe
    · obtain rfl:k=n:=by omega
      go_wp2_with fail
      go_ret
      refine⟨?_,_,rfl⟩
      exact jF
 · have h1:((n:Int) != (m:Int))=true:=by simp;omega
   have h2:(n != m)=true:=by simpa using hnm
   have HNM:=qAZ hnm
   clear hnm
   go_enter Tryz.func71,Tryz.ntmps71
   go_wp2_with fail
   go_ret
   refine⟨?_,0,rfl⟩
   rw[qDA (fun e=>HNM.out jS)]
   rfl
def sameB (xs ys:List Nat):Bool:=decide (xs=ys)
theorem qHu (A B:Option Addr) (n m c d:Nat) (xs ys:List Hnd) (w:World) (S T:Nat→Prop) (hl:xs.length=n) (hm:ys.length=m) (h:Sq hdL S w A xs) (h':Sq hdL T w B ys) (hn2:n≤9223372036854775807) (hm2:m≤9223372036854775807):
 Calls Tryz.prog 43 #[.slice A n c,.slice B m d] w fun e w'=>e= .returned (.bool (decide (xs=ys)))∧∃q,w'=w.drewN q:=by
 have HL:=qAZ hl
 have HM:=qAZ hm
 have HS:=qAZ h
 have HT:=qAZ h'
 clear hl hm h h'
 by_cases hnm:n=m
 · subst hnm
   go_enter Tryz.func43,Tryz.ntmps43
   go_wp2_with fail
   go_loopw [13] (fun i wr=>∃k q:Nat,k≤n∧i= .int .i64 (k:Nat)∧xs.take k=ys.take k∧wr=w.drewN q) (fun i _=>n-(intOf i).toNat)
   case atStart=>exact⟨0,0,qAs _,rfl,by simp,rfl⟩
   case round=>
    obtain⟨k,q,hk,rfl,heq,rfl⟩:=hrel
    have HE:=qAZ heq
    clear heq
    by_cases hlt:k<n
    · obtain⟨x,hx⟩:∃x,xs[k]? =some x:=⟨xs[k]'qd,qAa _⟩
      obtain⟨y,hy⟩:∃y,ys[k]? =some y:=⟨ys[k]'jX,qAa _⟩
      obtain⟨a,cs,rfl,hab,hc,hr⟩:=HS.out.at hx
      obtain⟨b,cs2,rfl,hbb,hc2,hr2⟩:=HT.out.at hy
      have HX:=qAZ hx
      have HY:=qAZ hy
      clear hx hy
      obtain⟨rfl,-,-⟩:=hr
      obtain⟨rfl,-,-⟩:=hr2
      have c0:=hc 0 _ rfl
      rw[show k*hdL.k+0=k*3 from rfl] at c0
      have c1:=hc 1 _ rfl
      rw[show k*hdL.k+1=k*3+1 from rfl,qAl a (k*3) 1 (by omega)] at c1
      have c2:=hc 2 _ rfl
      rw[show k*hdL.k+2=k*3+2 from rfl,qAl a (k*3) 2 (by omega)] at c2
      have e0:=hc2 0 _ rfl
      rw[show k*hdL.k+0=k*3 from rfl] at e0
      have e1:=hc2 1 _ rfl
      rw[show k*hdL.k+1=k*3+1 from rfl,qAl b (k*3) 1 (by omega)] at e1
      have e2:=hc2 2 _ rfl
      rw[show k*hdL.k+2=k*3+2 from rfl,qAl b (k*3) 2 (by omega)] at e2
      clear hc hc2
      have k0:0≤(k:Int):=by omega
      have k1:(k:Int)<(n:Int):=by omega
      by_cases hxy:x=y
      · subst hxy
        go_wp2_with fail
        go_quiet (fail)
        go_wp2_with fail
        refine⟨⟨k+1,_,by omega,by simp,qCs HE.out HX.out HY.out rfl,rfl⟩,by simp[intOf];omega⟩
      · have HXY:=qAZ hxy
        have hout:Hid (xs≠ys):=qE7 HX.out HY.out hxy
        clear hxy
        obtain⟨x0,x1,x2⟩:=x
        obtain⟨y0,y1,y2⟩:=y
        have HNE:Hid (¬(x0=y0∧x1=y1∧x2=y2)):=fun⟨h0,h1,h2⟩=>HXY.out (by rw[h0,h1,h2])
        clear HXY HX HY
        simp only[hdC] at*
        by_cases g0:x0=y0
        · by_cases g1:x1=y1
          · have g2:¬x2=y2:=fun h=>HNE.out ⟨g0,g1,h⟩
            have b0:(x0==y0)=true:=by simpa using g0
            have b1:((x1:Int)==(y1:Int))=true:=by simp;omega
            have b2:(x2==y2)=false:=by simpa using g2
            clear g0 g1 g2
            exact jL
          · have b0:(x0==y0)=true:=by simpa using g0
            have b1:((x1:Int)==(y1:Int))=false:=by simp;omega
            clear g0 g1
            exact jL
        · have b0:(x0==y0)=false:=by simpa using g0
          clear g0
          exact jL
    · obtain rfl:k=n:=by omega
      go_wp2_with fail
      go_ret
      refine⟨?_,_,rfl⟩
      have e:=HE.out
      rw[qAr qZ,qAr jR] at e
      rw[decide_eq_true e]
      rfl
 · have h1:((n:Int) != (m:Int))=true:=by simp;omega
   have h2:(n != m)=true:=by simpa using hnm
   have HNM:=qAZ hnm
   clear hnm
   go_enter Tryz.func43,Tryz.ntmps43
   go_wp2_with fail
   go_ret
   refine⟨?_,0,rfl⟩
   rw[decide_eq_false (fun e=>HNM.out jS)]
   rfl
theorem qET (A B:Option Addr) (n m c d:Nat) (xs ys:List Frm) (w:World) (hl:xs.length=n) (hm:ys.length=m) (h:Sq frL (·<w.heap.size) w A xs) (h':Sq frL (·<w.heap.size) w B ys) (hn2:n≤9223372036854775807) (hm2:m≤9223372036854775807)
 (hP:∀(w1:World) (cs cs2:List Value) (x y:Frm),frL.R (·<w1.heap.size) w1 cs x→frL.R (·<w1.heap.size) w1 cs2 y→Calls Tryz.prog 40 #[vAgg cs,vAgg cs2] w1 (Tells (eqB x y) w1)):
 Calls Tryz.prog 39 #[.slice A n c,.slice B m d,.func (.func 40) #[] #[]] w (Tells (eqB xs ys) w):=by
 have HL:=qAZ hl
 have HM:=qAZ hm
 have HS:=qAZ h
 have HT:=qAZ h'
 have HP0:=qAZ hP
 clear hl hm h h' hP
 by_cases hnm:n=m
 · subst hnm
   go_enter Tryz.func39,Tryz.ntmps39
   go_wp2_with fail
   go_loopw [17] (fun i wr=>∃k:Nat,k≤n∧i= .int .i64 (k:Nat)∧xs.take k=ys.take k∧Below w.heap.size w wr) (fun i _=>n-(intOf i).toNat)
   case atStart=>exact⟨0,qAs _,rfl,by simp,qAe _ _⟩
   case round=>
    obtain⟨k,hk,rfl,heq,hbel⟩:=hrel
    have HE:=qAZ heq
    have HB:=qAZ hbel
    have hs:=hbel.size
    clear heq hbel
    by_cases hlt:k<n
    · skip
      obtain⟨x,hx⟩:∃x,xs[k]? =some x:=⟨xs[k]'qd,qAa _⟩
      obtain⟨y,hy⟩:∃y,ys[k]? =some y:=⟨ys[k]'jX,qAa _⟩
      obtain⟨a,cs,rfl,hab,hc,hr⟩:=HS.out.at hx
      obtain⟨b,cs2,rfl,hbb,hc2,hr2⟩:=HT.out.at hy
      have HX:=qAZ hx
      have HY:=qAZ hy
      have HR:=qAZ hr
      have HR2:=qAZ hr2
      clear hx hy
      obtain⟨p0,p1,rfl,-,-,⟨A4,d4,e4,-⟩,⟨A5,d5,e5,-⟩⟩:=hr
      simp only[List.cons.injEq,and_true] at e4 e5
      subst e4 e5
      obtain⟨q0,q1,rfl,-,-,⟨B4,g4,i4,-⟩,⟨B5,g5,i5,-⟩⟩:=hr2
      simp only[List.cons.injEq,and_true] at i4 i5
      subst i4 i5
      have c0:=(HB.out.cell (p:=a.add (k*4)) qE).trans (hc 0 _ rfl)
      have c1:=(HB.out.cell (p:=a.add (k*4+1)) qE).trans (hc 1 _ rfl)
      rw[qAl a (k*4) 1 (by omega)] at c1
      have c2:=(HB.out.cell (p:=a.add (k*4+2)) qE).trans (hc 2 _ rfl)
      rw[qAl a (k*4) 2 (by omega)] at c2
      have c3:=(HB.out.cell (p:=a.add (k*4+3)) qE).trans (hc 3 _ rfl)
      rw[qAl a (k*4) 3 (by omega)] at c3
      have k0:=fun ob=>((HB.out.alloc hs ob).cell (p:=b.add (k*4)) qm).trans (hc2 0 _ rfl)
      have k1:=fun ob=>((HB.out.alloc hs ob).cell (p:=b.add (k*4+1)) qm).trans (hc2 1 _ rfl)
      rw[qAl b (k*4) 1 (by omega)] at k1
      have k2:=fun ob=>((HB.out.alloc hs ob).cell (p:=b.add (k*4+2)) qm).trans (hc2 2 _ rfl)
      rw[qAl b (k*4) 2 (by omega)] at k2
      have k3:=fun ob=>((HB.out.alloc hs ob).cell (p:=b.add (k*4+3)) qm).trans (hc2 3 _ rfl)
      rw[qAl b (k*4) 3 (by omega)] at k3
      have HP:Hid (∀w1,Below w.heap.size w w1→Calls Tryz.prog 40 #[.agg #[.int .i64 x.fn,.int .i64 x.pc,.slice A4 x.locs.length d4,.slice A5 x.stk.length d5],.agg #[.int .i64 y.fn,.int .i64 y.pc,.slice B4 y.locs.length g4,.slice B5 y.stk.length g5]] w1 (Tells (eqB x y) w1)):=fun w1 hb=>HP0.out w1 [.int .i64 x.fn,.int .i64 x.pc,.slice A4 x.locs.length d4,.slice A5 x.stk.length d5] [.int .i64 y.fn,.int .i64 y.pc,.slice B4 y.locs.length g4,.slice B5 y.stk.length g5] x y (frL.wide (frL.keep HR.out fun b hb1=>hb.block b hb1) fun b hb1=>qAg hb1 hb.size) (frL.wide (frL.keep HR2.out fun b hb1=>hb.block b hb1) fun b hb1=>qAg hb1 hb.size)
      clear hc hc2
      cases hg:eqB x y
      all_goals
       rw[hg] at HP
       have HG:=qAZ hg
       clear hg
       go_wp2_with (first
        |(go_at_call 40
          refine(HP.out _ ((HB.out.alloc hs _).alloc qf _)).mono ?_
          rintro e w2 ⟨rfl,hb2⟩
          have Hb2:=qAZ (((HB.out.alloc hs _).alloc qf _).trans (hb2.mono qf))
          clear hb2))
      · go_ret
        exact⟨by rw[qDA (qE7 HX.out HY.out (qEi HG.out))];rfl,Hb2.out⟩
      · refine⟨⟨k+1,by omega,by simp,qCs HE.out HX.out HY.out (qB7.1 HG.out),Hb2.out⟩,by simp[intOf];omega⟩
    · obtain rfl:k=n:=by omega
      go_wp2_with fail
      go_ret
      refine⟨?_,HB.out⟩
      exact jF
 · have h1:((n:Int) != (m:Int))=true:=by simp;omega
   have h2:(n != m)=true:=by simpa using hnm
   have HNM:=qAZ hnm
   clear hnm
   go_enter Tryz.func39,Tryz.ntmps39
   go_wp2_with fail
   go_ret
   refine⟨?_,qAe _ _⟩
   rw[qDA (fun e=>HNM.out jS)]
   rfl
theorem qE9 (A B:Option Addr) (n m c d:Nat) (xs ys:List Ob) (w:World) (hl:xs.length=n) (hm:ys.length=m) (h:Sq obL (·<w.heap.size) w A xs) (h':Sq obL (·<w.heap.size) w B ys) (hn2:n≤9223372036854775807) (hm2:m≤9223372036854775807)
 (hP:∀(w1:World) (cs cs2:List Value) (x y:Ob),obL.R (·<w1.heap.size) w1 cs x→obL.R (·<w1.heap.size) w1 cs2 y→Calls Tryz.prog 42 #[vAgg cs,vAgg cs2] w1 (Tells (eqB x y) w1)):
 Calls Tryz.prog 41 #[.slice A n c,.slice B m d,.func (.func 42) #[] #[]] w (Tells (eqB xs ys) w):=by
 have HL:=qAZ hl
 have HM:=qAZ hm
 have HS:=qAZ h
 have HT:=qAZ h'
 have HP0:=qAZ hP
 clear hl hm h h' hP
 by_cases hnm:n=m
 · subst hnm
   go_enter Tryz.func41,Tryz.ntmps41
   go_wp2_with fail
   go_loopw [17] (fun i wr=>∃k:Nat,k≤n∧i= .int .i64 (k:Nat)∧xs.take k=ys.take k∧Below w.heap.size w wr) (fun i _=>n-(intOf i).toNat)
   case atStart=>exact⟨0,qAs _,rfl,by simp,qAe _ _⟩
   case round=>
    obtain⟨k,hk,rfl,heq,hbel⟩:=hrel
    have HE:=qAZ heq
    have HB:=qAZ hbel
    have hs:=hbel.size
    clear heq hbel
    by_cases hlt:k<n
    · skip
      obtain⟨x,hx⟩:∃x,xs[k]? =some x:=⟨xs[k]'qd,qAa _⟩
      obtain⟨y,hy⟩:∃y,ys[k]? =some y:=⟨ys[k]'jX,qAa _⟩
      obtain⟨a,cs,rfl,hab,hc,hr⟩:=HS.out.at hx
      obtain⟨b,cs2,rfl,hbb,hc2,hr2⟩:=HT.out.at hy
      have HX:=qAZ hx
      have HY:=qAZ hy
      have HR:=qAZ hr
      have HR2:=qAZ hr2
      clear hx hy
      obtain⟨p0,p1,rfl,-,-,⟨A4,d4,e4,-⟩,⟨A5,d5,e5,-⟩⟩:=hr
      simp only[List.cons.injEq,and_true] at e4 e5
      subst e4 e5
      obtain⟨q0,q1,rfl,-,-,⟨B4,g4,i4,-⟩,⟨B5,g5,i5,-⟩⟩:=hr2
      simp only[List.cons.injEq,and_true] at i4 i5
      subst i4 i5
      have c0:=(HB.out.cell (p:=a.add (k*4)) qE).trans (hc 0 _ rfl)
      have c1:=(HB.out.cell (p:=a.add (k*4+1)) qE).trans (hc 1 _ rfl)
      rw[qAl a (k*4) 1 (by omega)] at c1
      have c2:=(HB.out.cell (p:=a.add (k*4+2)) qE).trans (hc 2 _ rfl)
      rw[qAl a (k*4) 2 (by omega)] at c2
      have c3:=(HB.out.cell (p:=a.add (k*4+3)) qE).trans (hc 3 _ rfl)
      rw[qAl a (k*4) 3 (by omega)] at c3
      have k0:=fun ob=>((HB.out.alloc hs ob).cell (p:=b.add (k*4)) qm).trans (hc2 0 _ rfl)
      have k1:=fun ob=>((HB.out.alloc hs ob).cell (p:=b.add (k*4+1)) qm).trans (hc2 1 _ rfl)
      rw[qAl b (k*4) 1 (by omega)] at k1
      have k2:=fun ob=>((HB.out.alloc hs ob).cell (p:=b.add (k*4+2)) qm).trans (hc2 2 _ rfl)
      rw[qAl b (k*4) 2 (by omega)] at k2
      have k3:=fun ob=>((HB.out.alloc hs ob).cell (p:=b.add (k*4+3)) qm).trans (hc2 3 _ rfl)
      rw[qAl b (k*4) 3 (by omega)] at k3
      have HP:Hid (∀w1,Below w.heap.size w w1→Calls Tryz.prog 42 #[.agg #[.int .i64 x.kind,.int .i64 x.n,.slice A4 x.words.length d4,.slice A5 x.bytes.length d5],.agg #[.int .i64 y.kind,.int .i64 y.n,.slice B4 y.words.length g4,.slice B5 y.bytes.length g5]] w1 (Tells (eqB x y) w1)):=fun w1 hb=>HP0.out w1 [.int .i64 x.kind,.int .i64 x.n,.slice A4 x.words.length d4,.slice A5 x.bytes.length d5] [.int .i64 y.kind,.int .i64 y.n,.slice B4 y.words.length g4,.slice B5 y.bytes.length g5] x y (obL.wide (obL.keep HR.out fun b hb1=>hb.block b hb1) fun b hb1=>qAg hb1 hb.size) (obL.wide (obL.keep HR2.out fun b hb1=>hb.block b hb1) fun b hb1=>qAg hb1 hb.size)
      clear hc hc2
      cases hg:eqB x y
      all_goals
       rw[hg] at HP
       have HG:=qAZ hg
       clear hg
       go_wp2_with (first
        |(go_at_call 42
          refine(HP.out _ ((HB.out.alloc hs _).alloc qf _)).mono ?_
          rintro e w2 ⟨rfl,hb2⟩
          have Hb2:=qAZ (((HB.out.alloc hs _).alloc qf _).trans (hb2.mono qf))
          clear hb2))
      · go_ret
        exact⟨by rw[qDA (qE7 HX.out HY.out (qEi HG.out))];rfl,Hb2.out⟩
      · refine⟨⟨k+1,by omega,by simp,qCs HE.out HX.out HY.out (qB7.1 HG.out),Hb2.out⟩,by simp[intOf];omega⟩
    · obtain rfl:k=n:=by omega
      go_wp2_with fail
      go_ret
      refine⟨?_,HB.out⟩
      exact jF
 · have h1:((n:Int) != (m:Int))=true:=by simp;omega
   have h2:(n != m)=true:=by simpa using hnm
   have HNM:=qAZ hnm
   clear hnm
   go_enter Tryz.func41,Tryz.ntmps41
   go_wp2_with fail
   go_ret
   refine⟨?_,qAe _ _⟩
   rw[qDA (fun e=>HNM.out jS)]
   rfl
theorem qBe {α:Type} {La:Lay α} {w v:World} {A:Option Addr} {xs:List α} (h:Sq La (·<w.heap.size) w A xs) (hb:Below w.heap.size w v):Sq La (·<v.heap.size) v A xs:=(h.keep fun b h1=>hb.block b h1).wide fun b h1=>qAg h1 hb.size
theorem qJH {α:Type} [DecidableEq α] (a b:α):eqB a b=decide (a=b):=by rw[Bool.eq_iff_iff,qB7,decide_eq_true_eq]
theorem qJG (x y:List Nat):eqB x y=sameB x y:=by rw[Bool.eq_iff_iff];simp[qB7,sameB]
theorem eqB_frm (x y:Frm):eqB x y=(decide (x.fn=y.fn) && decide (x.pc=y.pc) && eqB x.locs y.locs && eqB x.stk y.stk):=by
 rw[Bool.eq_iff_iff]
 simp only[Bool.and_eq_true,decide_eq_true_eq,qB7]
 exact⟨fun h=>by subst h;simp,fun h=>Frm.eq_of h.1.1.1 h.1.1.2 h.1.2 h.2⟩
theorem eqB_ob (x y:Ob):eqB x y=(decide (x.kind=y.kind) && decide (x.n=y.n) && eqB x.words y.words && sameB x.bytes y.bytes):=by
 rw[Bool.eq_iff_iff]
 simp only[Bool.and_eq_true,decide_eq_true_eq,qB7,sameB]
 exact⟨fun h=>by subst h;simp,fun h=>Ob.eq_of h.1.1.1 h.1.1.2 h.1.2 h.2⟩
theorem eqB_stt (x y:Stt):eqB x y=(decide (x.quota=y.quota) && decide (x.used=y.used) && decide (x.fin=y.fin) && decide (x.val=y.val) && eqB x.fr y.fr && eqB x.hp y.hp && eqB x.hn y.hn):=by
 rw[Bool.eq_iff_iff]
 simp only[Bool.and_eq_true,decide_eq_true_eq,qB7]
 exact⟨fun h=>by subst h;simp,fun h=>Stt.eq_of h.1.1.2 h.1.2 h.2 h.1.1.1.1.1.1 h.1.1.1.1.1.2 h.1.1.1.1.2 h.1.1.1.2⟩
theorem qEQ (cs cs2:List Value) (x y:Frm) (w:World) (h:frL.R (·<w.heap.size) w cs x) (h':frL.R (·<w.heap.size) w cs2 y):Calls Tryz.prog 40 #[vAgg cs,vAgg cs2] w (Tells (eqB x y) w):=by
 obtain⟨A4,d4,A5,d5,rfl,l4a,l4,l5a,l5,s4,s5,-,-⟩:=qBq h
 obtain⟨B4,g4,B5,g5,rfl,m4a,m4,m5a,m5,t4,t5,-,-⟩:=qBq h'
 have r1:x.locs.length≤maxLen:=by omega
 have r2:x.stk.length≤maxLen:=by omega
 have r3:y.locs.length≤maxLen:=by omega
 have r4:y.stk.length≤maxLen:=by omega
 unfold maxLen at r1 r2 r3 r4
 have T0:Hid (∀w1,Below w.heap.size w w1→Calls Tryz.prog 70 #[.slice A4 x.locs.length d4,.slice B4 y.locs.length g4] w1 (Tells (eqB x.locs y.locs) w1)):=fun w1 hb=>(qDR A4 B4 _ _ d4 g4 x.locs y.locs w1 _ _ rfl rfl (qBe s4 hb) (qBe t4 hb) (by omega) (by omega)).mono fun e w2 h=>⟨h.1,by obtain⟨q,rfl⟩:=h.2;exact qA7 _ _⟩
 have T1:Hid (∀w1,Below w.heap.size w w1→Calls Tryz.prog 70 #[.slice A5 x.stk.length d5,.slice B5 y.stk.length g5] w1 (Tells (eqB x.stk y.stk) w1)):=fun w1 hb=>(qDR A5 B5 _ _ d5 g5 x.stk y.stk w1 _ _ rfl rfl (qBe s5 hb) (qBe t5 hb) (by omega) (by omega)).mono fun e w2 h=>⟨h.1,by obtain⟨q,rfl⟩:=h.2;exact qA7 _ _⟩
 clear s4 s5 t4 t5 r1 r2 r3 r4 l4 l5 m4 m5 l4a l5a m4a m5a
 show Calls Tryz.prog 40 #[.agg #[.int .i64 x.fn,.int .i64 x.pc,.slice A4 x.locs.length d4,.slice A5 x.stk.length d5],.agg #[.int .i64 y.fn,.int .i64 y.pc,.slice B4 y.locs.length g4,.slice B5 y.stk.length g5]] w (Tells (eqB x y) w)
 rw[eqB_frm]
 generalize x.locs.length=n0 at*
 generalize y.locs.length=m0 at*
 generalize x.stk.length=n1 at*
 generalize y.stk.length=m1 at*
 generalize eqB x.locs y.locs=b0 at*
 generalize eqB x.stk y.stk=b1 at*
 generalize x.fn=k1 at*
 generalize x.pc=k2 at*
 generalize y.fn=k3 at*
 generalize y.pc=k4 at*
 have HB0:Hid (Below w.heap.size w ((w.alloc (.cells #[.int .i64 k1,.int .i64 k2,.slice A4 n0 d4,.slice A5 n1 d5] 67)).alloc (.cells #[.int .i64 k3,.int .i64 k4,.slice B4 m0 g4,.slice B5 m1 g5] 67))):=((qAe _ _).alloc (qAf _) _).alloc (by simp) _
 have HC:Hid (∀v,Below w.heap.size w v→(∀u,Below v.heap.size v u→C4 w.heap.size (.int .i64 k1) (.int .i64 k2) (.slice A4 n0 d4) (.slice A5 n1 d5) v→C4 (w.heap.size+1) (.int .i64 k3) (.int .i64 k4) (.slice B4 m0 g4) (.slice B5 m1 g5) v→w.heap.size+1<v.heap.size→C4 w.heap.size (.int .i64 k1) (.int .i64 k2) (.slice A4 n0 d4) (.slice A5 n1 d5) u∧C4 (w.heap.size+1) (.int .i64 k3) (.int .i64 k4) (.slice B4 m0 g4) (.slice B5 m1 g5) u)):=fun v _ u hu h1 h2 hs=>⟨h1.below hu (by omega),h2.below hu hs⟩
 have HC0:=qAZ (fun u hu=>HC.out _ HB0.out u hu (by simp[C4,go_sem]) (by simp[C4,go_sem]) (by simp))
 by_cases g1:k1=k3
 · subst g1
   by_cases g2:k2=k4
   · subst g2
     rcases b0 with _|_
     all_goals
      go_enter Tryz.func40,Tryz.ntmps40
      go_wp2_with (first
       |(go_at_call 70
         (with_reducible refine(T1.out _ ?_).mono ?_)
         · exact HB1.out
         rintro e w2 ⟨rfl,hb2⟩
         have HB2:=qAZ (HB1.out.trans (hb2.mono HB1.out.size))
         clear hb2)
       |(go_at_call 70
         (with_reducible refine(T0.out _ ?_).mono ?_)
         · exact HB0.out
         rintro e w1 ⟨rfl,hb1⟩
         obtain⟨⟨y0,y1,y2,y3⟩,z0,z1,z2,z3⟩:=HC0.out w1 hb1
         have HB1:=qAZ (HB0.out.trans (hb1.mono HB0.out.size))
         clear hb1))
      go_ret
     all_goals first|exact⟨by simp,HB2.out⟩|exact⟨by simp,HB1.out⟩
   · have b2:(k2==k4)=false:=by simpa using g2
     have b3:decide (k2=k4)=false:=by simpa using g2
     clear g2
     go_enter Tryz.func40,Tryz.ntmps40
     exact zd
 · have b2:(k1==k3)=false:=by simpa using g1
   have b3:decide (k1=k3)=false:=by simpa using g1
   clear g1
   go_enter Tryz.func40,Tryz.ntmps40
   exact zd
theorem qD1 (cs cs2:List Value) (x y:Ob) (w:World) (h:obL.R (·<w.heap.size) w cs x) (h':obL.R (·<w.heap.size) w cs2 y):Calls Tryz.prog 42 #[vAgg cs,vAgg cs2] w (Tells (eqB x y) w):=by
 obtain⟨A4,d4,A5,d5,rfl,l4a,l4,l5a,l5,s4,s5,hxb,-,-⟩:=qCB h
 obtain⟨B4,g4,B5,g5,rfl,m4a,m4,m5a,m5,t4,t5,hyb,-,-⟩:=qCB h'
 have r1:x.words.length≤maxLen:=by omega
 have r2:x.bytes.length≤maxLen:=by omega
 have r3:y.words.length≤maxLen:=by omega
 have r4:y.bytes.length≤maxLen:=by omega
 unfold maxLen at r1 r2 r3 r4
 have T0:Hid (∀w1,Below w.heap.size w w1→Calls Tryz.prog 70 #[.slice A4 x.words.length d4,.slice B4 y.words.length g4] w1 (Tells (eqB x.words y.words) w1)):=fun w1 hb=>(qDR A4 B4 _ _ d4 g4 x.words y.words w1 _ _ rfl rfl (qBe s4 hb) (qBe t4 hb) (by omega) (by omega)).mono fun e w2 h=>⟨h.1,by obtain⟨q,rfl⟩:=h.2;exact qA7 _ _⟩
 have T1:Hid (∀w1,Below w.heap.size w w1→Calls Tryz.prog 71 #[.slice A5 x.bytes.length d5,.slice B5 y.bytes.length g5] w1 (Tells (sameB x.bytes y.bytes) w1)):=fun w1 hb=>(qHt A5 B5 _ _ d5 g5 x.bytes y.bytes w1 _ _ rfl rfl (qBe (qD6 s5 hxb) hb) (qBe (qD6 t5 hyb) hb) (by omega) (by omega)).mono fun e w2 h=>⟨by rw[h.1];simp[qJG],by obtain⟨q,rfl⟩:=h.2;exact qA7 _ _⟩
 clear s4 s5 t4 t5 r1 r2 r3 r4 l4 l5 m4 m5 l4a l5a m4a m5a hxb hyb
 show Calls Tryz.prog 42 #[.agg #[.int .i64 x.kind,.int .i64 x.n,.slice A4 x.words.length d4,.slice A5 x.bytes.length d5],.agg #[.int .i64 y.kind,.int .i64 y.n,.slice B4 y.words.length g4,.slice B5 y.bytes.length g5]] w (Tells (eqB x y) w)
 rw[eqB_ob]
 generalize x.words.length=n0 at*
 generalize y.words.length=m0 at*
 generalize x.bytes.length=n1 at*
 generalize y.bytes.length=m1 at*
 generalize eqB x.words y.words=b0 at*
 generalize sameB x.bytes y.bytes=b1 at*
 generalize x.kind=k1 at*
 generalize x.n=k2 at*
 generalize y.kind=k3 at*
 generalize y.n=k4 at*
 have HB0:Hid (Below w.heap.size w ((w.alloc (.cells #[.int .i64 k1,.int .i64 k2,.slice A4 n0 d4,.slice A5 n1 d5] 54)).alloc (.cells #[.int .i64 k3,.int .i64 k4,.slice B4 m0 g4,.slice B5 m1 g5] 54))):=((qAe _ _).alloc (qAf _) _).alloc (by simp) _
 have HC:Hid (∀v,Below w.heap.size w v→(∀u,Below v.heap.size v u→C4 w.heap.size (.int .i64 k1) (.int .i64 k2) (.slice A4 n0 d4) (.slice A5 n1 d5) v→C4 (w.heap.size+1) (.int .i64 k3) (.int .i64 k4) (.slice B4 m0 g4) (.slice B5 m1 g5) v→w.heap.size+1<v.heap.size→C4 w.heap.size (.int .i64 k1) (.int .i64 k2) (.slice A4 n0 d4) (.slice A5 n1 d5) u∧C4 (w.heap.size+1) (.int .i64 k3) (.int .i64 k4) (.slice B4 m0 g4) (.slice B5 m1 g5) u)):=fun v _ u hu h1 h2 hs=>⟨h1.below hu (by omega),h2.below hu hs⟩
 have HC0:=qAZ (fun u hu=>HC.out _ HB0.out u hu (by simp[C4,go_sem]) (by simp[C4,go_sem]) (by simp))
 by_cases g1:k1=k3
 · subst g1
   by_cases g2:k2=k4
   · subst g2
     rcases b0 with _|_
     all_goals
      go_enter Tryz.func42,Tryz.ntmps42
      go_wp2_with (first
       |(go_at_call 71
         (with_reducible refine(T1.out _ ?_).mono ?_)
         · exact HB1.out
         rintro e w2 ⟨rfl,hb2⟩
         have HB2:=qAZ (HB1.out.trans (hb2.mono HB1.out.size))
         clear hb2)
       |(go_at_call 70
         (with_reducible refine(T0.out _ ?_).mono ?_)
         · exact HB0.out
         rintro e w1 ⟨rfl,hb1⟩
         obtain⟨⟨y0,y1,y2,y3⟩,z0,z1,z2,z3⟩:=HC0.out w1 hb1
         have HB1:=qAZ (HB0.out.trans (hb1.mono HB0.out.size))
         clear hb1))
      go_ret
     all_goals first|exact⟨by simp,HB2.out⟩|exact⟨by simp,HB1.out⟩
   · have b2:(k2==k4)=false:=by simpa using g2
     have b3:decide (k2=k4)=false:=by simpa using g2
     clear g2
     go_enter Tryz.func42,Tryz.ntmps42
     exact zd
 · have b2:(k1==k3)=false:=by simpa using g1
   have b3:decide (k1=k3)=false:=by simpa using g1
   clear g1
   go_enter Tryz.func42,Tryz.ntmps42
   exact zd
theorem qGF (cs cs2:List Value) (x y:Stt) (w:World) (h:stL.R (·<w.heap.size) w cs x) (h':stL.R (·<w.heap.size) w cs2 y):Calls Tryz.prog 17 #[vAgg cs,vAgg cs2] w (Tells (eqB x y) w):=by
 obtain⟨A0,c0,A1,c1,A2,c2,rfl,k0a,k0,k1a,k1,k2a,k2,s0,s1,s2,-,-,-,-⟩:=qBh h
 obtain⟨B0,d0,B1,d1,B2,d2,rfl,l0a,l0,l1a,l1,l2a,l2,t0,t1,t2,-,-,-,-⟩:=qBh h'
 have r1:x.fr.length≤maxLen∧x.hp.length≤maxLen∧x.hn.length≤maxLen:=by omega
 have r2:y.fr.length≤maxLen∧y.hp.length≤maxLen∧y.hn.length≤maxLen:=by omega
 unfold maxLen at r1 r2
 have T0:Hid (∀w1,Below w.heap.size w w1→Calls Tryz.prog 39 #[.slice A0 x.fr.length c0,.slice B0 y.fr.length d0,.func (.func 40) #[] #[]] w1 (Tells (eqB x.fr y.fr) w1)):=fun w1 hb=>qET A0 B0 _ _ c0 d0 x.fr y.fr w1 rfl rfl (qBe s0 hb) (qBe t0 hb) (by omega) (by omega) fun w2 cs cs2 a b ha hb=>qEQ cs cs2 a b w2 ha hb
 have T1:Hid (∀w1,Below w.heap.size w w1→Calls Tryz.prog 41 #[.slice A1 x.hp.length c1,.slice B1 y.hp.length d1,.func (.func 42) #[] #[]] w1 (Tells (eqB x.hp y.hp) w1)):=fun w1 hb=>qE9 A1 B1 _ _ c1 d1 x.hp y.hp w1 rfl rfl (qBe s1 hb) (qBe t1 hb) (by omega) (by omega) fun w2 cs cs2 a b ha hb=>qD1 cs cs2 a b w2 ha hb
 have T2:Hid (∀w1,Below w.heap.size w w1→Calls Tryz.prog 43 #[.slice A2 x.hn.length c2,.slice B2 y.hn.length d2] w1 (Tells (eqB x.hn y.hn) w1)):=fun w1 hb=>(qHu A2 B2 _ _ c2 d2 x.hn y.hn w1 _ _ rfl rfl (qBe s2 hb) (qBe t2 hb) (by omega) (by omega)).mono fun e w2 h=>⟨by rw[h.1,qJH],by obtain⟨q,rfl⟩:=h.2;exact qA7 _ _⟩
 clear k0 k1 k2 l0 l1 l2 k0a k1a k2a l0a l1a l2a s0 s1 s2 t0 t1 t2 r1 r2 h h'
 show Calls Tryz.prog 17 #[.agg #[.slice A0 x.fr.length c0,.slice A1 x.hp.length c1,.slice A2 x.hn.length c2,.int .i64 x.quota,.int .i64 x.used,.int .i64 x.fin,.int .u64 (x.val:Int)],.agg #[.slice B0 y.fr.length d0,.slice B1 y.hp.length d1,.slice B2 y.hn.length d2,.int .i64 y.quota,.int .i64 y.used,.int .i64 y.fin,.int .u64 (y.val:Int)]] w (Tells (eqB x y) w)
 rw[eqB_stt]
 have e4:decide (x.val=y.val)=decide ((x.val:Int)=(y.val:Int)):=by rw[Bool.eq_iff_iff];simp;omega
 rw[e4]
 clear e4
 generalize x.fr.length=n0 at*
 generalize y.fr.length=m0 at*
 generalize x.hp.length=n1 at*
 generalize y.hp.length=m1 at*
 generalize x.hn.length=n2 at*
 generalize y.hn.length=m2 at*
 generalize eqB x.fr y.fr=b0 at*
 generalize eqB x.hp y.hp=b1 at*
 generalize eqB x.hn y.hn=b2 at*
 generalize x.quota=q1 at*
 generalize x.used=q2 at*
 generalize x.fin=q3 at*
 generalize (x.val:Int)=q4 at*
 generalize y.quota=r1 at*
 generalize y.used=r2 at*
 generalize y.fin=r3 at*
 generalize (y.val:Int)=r4 at*
 have HB0:Hid (Below w.heap.size w ((w.alloc (.cells #[.slice A0 n0 c0,.slice A1 n1 c1,.slice A2 n2 c2,.int .i64 q1,.int .i64 q2,.int .i64 q3,.int .u64 q4] 36)).alloc (.cells #[.slice B0 m0 d0,.slice B1 m1 d1,.slice B2 m2 d2,.int .i64 r1,.int .i64 r2,.int .i64 r3,.int .u64 r4] 36))):=((qAe _ _).alloc (qAf _) _).alloc (by simp) _
 have HC:Hid (∀v,w.heap.size+1<v.heap.size→C7 w.heap.size (.slice A0 n0 c0) (.slice A1 n1 c1) (.slice A2 n2 c2) (.int .i64 q1) (.int .i64 q2) (.int .i64 q3) (.int .u64 q4) v→C7 (w.heap.size+1) (.slice B0 m0 d0) (.slice B1 m1 d1) (.slice B2 m2 d2) (.int .i64 r1) (.int .i64 r2) (.int .i64 r3) (.int .u64 r4) v→∀u,Below v.heap.size v u→C7 w.heap.size (.slice A0 n0 c0) (.slice A1 n1 c1) (.slice A2 n2 c2) (.int .i64 q1) (.int .i64 q2) (.int .i64 q3) (.int .u64 q4) u∧C7 (w.heap.size+1) (.slice B0 m0 d0) (.slice B1 m1 d1) (.slice B2 m2 d2) (.int .i64 r1) (.int .i64 r2) (.int .i64 r3) (.int .u64 r4) u∧w.heap.size+1<u.heap.size):=fun v hs h1 h2 u hu=>⟨h1.below hu (by omega),h2.below hu hs,by have:=hu.size;omega⟩
 have HC0:=qAZ (HC.out _ (by simp) (by simp[C7,go_sem]) (by simp[C7,go_sem]):∀u,Below ((w.alloc (.cells #[.slice A0 n0 c0,.slice A1 n1 c1,.slice A2 n2 c2,.int .i64 q1,.int .i64 q2,.int .i64 q3,.int .u64 q4] 36)).alloc (.cells #[.slice B0 m0 d0,.slice B1 m1 d1,.slice B2 m2 d2,.int .i64 r1,.int .i64 r2,.int .i64 r3,.int .u64 r4] 36)).heap.size ((w.alloc (.cells #[.slice A0 n0 c0,.slice A1 n1 c1,.slice A2 n2 c2,.int .i64 q1,.int .i64 q2,.int .i64 q3,.int .u64 q4] 36)).alloc (.cells #[.slice B0 m0 d0,.slice B1 m1 d1,.slice B2 m2 d2,.int .i64 r1,.int .i64 r2,.int .i64 r3,.int .u64 r4] 36)) u→_)
 by_cases g1:q1=r1
 rotate_left
 · skip
   have b2:(q1==r1)=false:=by simpa using g1
   have b3:decide (q1=r1)=false:=by simpa using g1
   clear g1
   go_enter Tryz.func17,Tryz.ntmps17
   exact zd
 subst g1
 by_cases g2:q2=r2
 rotate_left
 · skip
   have b2:(q2==r2)=false:=by simpa using g2
   have b3:decide (q2=r2)=false:=by simpa using g2
   clear g2
   go_enter Tryz.func17,Tryz.ntmps17
   exact zd
 subst g2
 by_cases g3:q3=r3
 rotate_left
 · skip
   have b2:(q3==r3)=false:=by simpa using g3
   have b3:decide (q3=r3)=false:=by simpa using g3
   clear g3
   go_enter Tryz.func17,Tryz.ntmps17
   exact zd
 subst g3
 by_cases g4:q4=r4
 rotate_left
 · skip
   have b2:(q4==r4)=false:=by simpa using g4
   have b3:decide (q4=r4)=false:=by simpa using g4
   clear g4
   go_enter Tryz.func17,Tryz.ntmps17
   exact zd
 subst g4
 rcases b0 with _|_
 case' true=>rcases b1 with _|_
 all_goals
  go_enter Tryz.func17,Tryz.ntmps17
  go_wp2_with (first
   |(go_at_call 43
     (with_reducible refine(T2.out _ ?_).mono ?_)
     · exact HB2.out
     rintro e w3 ⟨rfl,hb3⟩
     have HB3:=qAZ (HB2.out.trans (hb3.mono HB2.out.size))
     clear hb3)
   |(go_at_call 41
     (with_reducible refine(T1.out _ ?_).mono ?_)
     · exact HB1.out
     rintro e w2 ⟨rfl,hb2⟩
     obtain⟨⟨u0,u1,u2,u3,u4,u5,u6⟩,⟨v0,v1,v2,v3,v4,v5,v6⟩,-⟩:=HC.out w1 HS1.out HX1.out.1 HX1.out.2 w2 hb2
     have HB2:=qAZ (HB1.out.trans (hb2.mono HB1.out.size))
     clear hb2)
   |(go_at_call 39
     (with_reducible refine(T0.out _ ?_).mono ?_)
     · exact HB0.out
     rintro e w1 ⟨rfl,hb1⟩
     obtain⟨hx1,hy1,hs1⟩:=HC0.out w1 hb1
     have HX1:=qAZ (And.intro hx1 hy1)
     have HS1:=qAZ hs1
     obtain⟨y0,y1,y2,y3,y4,y5,y6⟩:=hx1
     obtain⟨z0,z1,z2,z3,z4,z5,z6⟩:=hy1
     have HB1:=qAZ (HB0.out.trans (hb1.mono HB0.out.size))
     clear hb1 hs1))
  go_ret
 all_goals first|exact⟨by simp,HB3.out⟩|exact⟨by simp,HB2.out⟩|exact⟨by simp,HB1.out⟩
theorem qHy (F O H:Option Addr) (nf cf no co nh ch:Nat) (q1 q2 q3:Int) (q4:Nat) (s:Stt) (w:World) (h:stL.R (·<w.heap.size) w [.slice F nf cf,.slice O no co,.slice H nh ch,.int .i64 q1,.int .i64 q2,.int .i64 q3,.int .u64 (q4:Int)] s) (hz:s.low):
 Calls Tryz.prog 18 #[.agg #[.slice F nf cf,.slice O no co,.slice H nh ch,.int .i64 q1,.int .i64 q2,.int .i64 q3,.int .u64 (q4:Int)]] w fun e w'=>∃F' cf' O' co' H' ch',e= .returned (.agg #[.slice F' nf cf',.slice O' no co',.slice H' nh ch',.int .i64 q1,.int .i64 q2,.int .i64 q3,.int .u64 (q4:Int)])∧stL.R (New w.heap.size w') w' [.slice F' nf cf',.slice O' no co',.slice H' nh ch',.int .i64 q1,.int .i64 q2,.int .i64 q3,.int .u64 (q4:Int)] s∧Below w.heap.size w w':=by
 obtain⟨_,_,_,_,_,_,e1,-⟩:=qBh h
 simp only[List.cons.injEq,Value.slice.injEq,Value.int.injEq,and_true,true_and] at e1
 obtain⟨⟨-,rfl,-⟩,⟨-,rfl,-⟩,⟨-,rfl,-⟩,rfl,rfl,rfl,e2⟩:=e1
 have e3:q4=s.val:=by omega
 subst e3
 refine(qFR _ s w h hz).mono ?_
 rintro e w' ⟨cs',rfl,hR,hb⟩
 obtain⟨F',cf',O',co',H',ch',rfl,-⟩:=qBh hR
 exact⟨F',cf',O',co',H',ch',rfl,hR,hb⟩
def f14:Fn:=⟨[],(1,0),[(1,0)],[(0,0,0),(26,0,0)]⟩
def m14:Mod:=⟨[],[f14],[],[7],[]⟩
theorem qIu:mainB m14=true:=by decide
theorem low14:(beginS 1 100).low:=⟨by decide,by decide,by decide,fun f hf=>by simp[beginS] at hf;subst hf;exact⟨by decide,by decide⟩,fun o ho=>by simp[beginS] at ho⟩
theorem answers14 (w:World):Calls Tryz.prog 7 #[] w fun e w'=>e= .returned (.bool true)∧Below w.heap.size w w':=by
 go_enter Tryz.func7,Tryz.ntmps7
 go_upto_region 3 with(fail)
 refine qAp fun W hW=> ?_
 have b0:Blk W (w.heap.size+1) 34 #[.int .u64 7]:=by rw[hW];repeat(first|(refine qAm ?_;simp;done)|refine qAd ?_)
 have b1:Blk W (w.heap.size+1+1) 58 #[.int .i64 1,.int .i64 0]:=by rw[hW];repeat(first|(refine qAm ?_;simp;done)|refine qAd ?_)
 have b2:Blk W (w.heap.size+1+1+1) 65 #[.int .i64 0,.int .i64 0,.int .i64 0,.int .i64 26,.int .i64 0,.int .i64 0]:=by rw[hW];repeat(first|(refine qAm ?_;simp;done)|refine qAd ?_)
 have b3:Blk W (w.heap.size+1+1+1+1) 61 #[.slice none 0 0,.int .i64 1,.int .i64 0,.slice (some ⟨w.heap.size+1+1,0,none⟩) 1 1,.slice (some ⟨w.heap.size+1+1+1,0,none⟩) 2 2]:=by rw[hW];repeat(first|(refine qAm ?_;simp;done)|refine qAd ?_)
 have b4:Blk W (w.heap.size+1+1+1+1+1) 28 #[.slice none 0 0,.slice (some ⟨w.heap.size+1+1+1+1,0,none⟩) 1 1,.slice none 0 0,.slice (some ⟨w.heap.size+1,0,none⟩) 1 1,.slice none 0 0]:=by rw[hW];repeat(first|(refine qAm ?_;simp;done)|refine qAd ?_)
 have i64:∀k:Int,0≤k→k≤1000→I64 k:=fun k h1 h2=>⟨by omega,by omega⟩
 have HL:Hid (modL.R (·<W.heap.size) W [.slice none 0 0,.slice (some ⟨w.heap.size+1+1+1+1,0,none⟩) 1 1,.slice none 0 0,.slice (some ⟨w.heap.size+1,0,none⟩) 1 1,.slice none 0 0] m14):=
  ⟨_,_,_,_,_,rfl,qBZ _ _ _,qE2 (L:=fnL) (x:=f14) b3 b3.lt ⟨_,_,_,rfl,i64 1 zB zB,i64 0 zB zB,qBZ _ _ _,qE2 (L:=typL) (x:=(1,0)) b1 b1.lt ⟨rfl,i64 _ zB zB,i64 _ zB zB⟩,qDw (L:=insL) (x:=(0,0,0)) (y:=(26,0,0)) (c0:=[.int .i64 0,.int .i64 0,.int .i64 0]) (c1:=[.int .i64 26,.int .i64 0,.int .i64 0]) b2 b2.lt rfl ⟨rfl,i64 _ zB zB,i64 _ zB zB,i64 _ zB zB⟩ ⟨rfl,i64 _ zB zB,i64 _ zB zB,i64 _ zB zB⟩⟩,qBZ _ _ _,qE2 (L:=numL) (x:=7) b0 b0.lt ⟨rfl,by unfold B64;omega⟩,qBZ _ _ _⟩
 have HB0:Hid (Below w.heap.size w W):=by show Below _ _ _;rw[hW];exact(((((qAe _ _).alloc (qAf _) _).alloc (by simp) _).alloc qG _).alloc qG _).alloc qG _ |>.alloc qG _
 have y0:=b4.cell 0
 have y1:=b4.cell 1
 have y2:=b4.cell 2
 have y3:=b4.cell 3
 have y4:=b4.cell 4
 clear hW b0 b1 b2 b3 b4
 have BG:=qAZ (qIL _ m14 f14 [] 100 W HL.out rfl zB (i64 100 zB zB) qIu zB)
 simp only[vAgg] at BG
 go_upto_region 4 with(first
  |(go_at_call 8
    refine BG.out.mono ?_
    rintro e w1 ⟨cs',rfl,hR,hb⟩
    obtain⟨F,cf,O,co,H,ch,ecs,-,-,-,-,-,-,sF,-,-,-,-,-,-⟩:=qBh hR
    have ecs':cs'=[.slice F 1 cf,.slice O 0 co,.slice H 0 ch,.int .i64 100,.int .i64 0,.int .i64 0,.int .u64 0]:=ecs
    subst ecs'
    have HR1:=qAZ hR
    have HF1:=qAZ sF
    have HB1:=qAZ hb
    clear hR sF hb ecs y0 y1 y2 y3 y4))
 refine qAp fun V hV=> ?_
 obtain⟨G,hG⟩:∃G,w1.heap.size=G:=⟨_,rfl⟩
 have hBV:Below w1.heap.size w1 V:=by rw[hV];exact(qAe _ _).alloc (qAf _) _
 have HKV:Hid (Blk V G 36 #[.slice F 1 cf,.slice O 0 co,.slice H 0 ch,.int .i64 100,.int .i64 0,.int .i64 0,.int .u64 0]):=by show Blk _ _ _ _;rw[hV];exact qAm hG
 have HBV:=qAZ hBV
 rw[hG]
 have hGV:G<V.heap.size:=HKV.out.lt
 obtain⟨aF,csF,eF,haF,hcF,hRF⟩:=HF1.out.at (k:=0) (x:=⟨0,0,List.replicate 1 0,[]⟩) rfl
 subst eF
 obtain⟨P0,e0,P1,e1,rfl,-⟩:=qBq hRF
 have z2:=hcF 2 _ rfl
 rw[show 0*frL.k+2=2 from rfl,show aF.add 2=⟨aF.block,aF.off+2,none⟩ by simp[Addr.add]] at z2
 have HZ2:Hid (w1.cell? ⟨aF.block,aF.off+2,none⟩=some (.slice P0 1 e0)):=z2
 clear hV hG z2 hcF hRF hBV
 have STV:Hid (∀v,Below V.heap.size V v→stL.R (·<v.heap.size) v [.slice (some aF) 1 cf,.slice O 0 co,.slice H 0 ch,.int .i64 100,.int .i64 0,.int .i64 0,.int .u64 0] (beginS 1 100)):=fun v hb=>by
  have hb2:=HBV.out.trans (hb.mono HBV.out.size)
  exact stL.wide (stL.keep HR1.out fun b h1=>hb2.block b h1) fun b h1=>qAg h1 hb2.size
 have CN:Hid (∀v,Below V.heap.size V v→Calls Tryz.prog 18 #[.agg #[.slice (some aF) 1 cf,.slice O 0 co,.slice H 0 ch,.int .i64 100,.int .i64 0,.int .i64 0,.int .u64 0]] v fun e w'=>∃F' cf' O' co' H' ch',e= .returned (.agg #[.slice F' 1 cf',.slice O' 0 co',.slice H' 0 ch',.int .i64 100,.int .i64 0,.int .i64 0,.int .u64 0])∧stL.R (New v.heap.size w') w' [.slice F' 1 cf',.slice O' 0 co',.slice H' 0 ch',.int .i64 100,.int .i64 0,.int .i64 0,.int .u64 0] (beginS 1 100)∧Below v.heap.size v w'):=fun v hb=>qHy (some aF) O H 1 cf 0 co 0 ch 100 0 0 0 (beginS 1 100) v (STV.out v hb) low14
 have SM:Hid (∀v F' cf' O' co' H' ch',Below V.heap.size V v→stL.R (·<v.heap.size) v [.slice F' 1 cf',.slice O' 0 co',.slice H' 0 ch',.int .i64 100,.int .i64 0,.int .i64 0,.int .u64 0] (beginS 1 100)→Calls Tryz.prog 17 #[.agg #[.slice (some aF) 1 cf,.slice O 0 co,.slice H 0 ch,.int .i64 100,.int .i64 0,.int .i64 0,.int .u64 0],.agg #[.slice F' 1 cf',.slice O' 0 co',.slice H' 0 ch',.int .i64 100,.int .i64 0,.int .i64 0,.int .u64 0]] v (Tells true v)):=fun v F' cf' O' co' H' ch' hb h=>by
  have:=qGF _ _ _ _ v (STV.out v hb) h
  rwa [qEE] at this
 have HS4:Hid (∀v,Below V.heap.size V v→v.cell? ⟨G,0,none⟩=some (.slice (some aF) 1 cf)∧v.cell? ⟨G,1,none⟩=some (.slice O 0 co)∧v.cell? ⟨G,2,none⟩=some (.slice H 0 ch)∧v.cell? ⟨G,3,none⟩=some (.int .i64 100)∧v.cell? ⟨G,4,none⟩=some (.int .i64 0)∧v.cell? ⟨G,5,none⟩=some (.int .i64 0)∧v.cell? ⟨G,6,none⟩=some (.int .u64 0)∧v.cell? ⟨aF.block,aF.off+2,none⟩=some (.slice P0 1 e0)):=fun v hb=>⟨(qAc HKV.out hb hGV).cell 0,(qAc HKV.out hb hGV).cell 1,(qAc HKV.out hb hGV).cell 2,(qAc HKV.out hb hGV).cell 3,(qAc HKV.out hb hGV).cell 4,(qAc HKV.out hb hGV).cell 5,(qAc HKV.out hb hGV).cell 6,qEn HZ2.out (HBV.out.trans (hb.mono HBV.out.size))⟩
 go_region_held3 (fun v=>v.cell? ⟨G,0,none⟩=some (.slice (some aF) 1 cf)∧v.cell? ⟨G,1,none⟩=some (.slice O 0 co)∧v.cell? ⟨G,2,none⟩=some (.slice H 0 ch)∧v.cell? ⟨G,3,none⟩=some (.int .i64 100)∧v.cell? ⟨G,4,none⟩=some (.int .i64 0)∧v.cell? ⟨G,5,none⟩=some (.int .i64 0)∧v.cell? ⟨G,6,none⟩=some (.int .u64 0)∧v.cell? ⟨aF.block,aF.off+2,none⟩=some (.slice P0 1 e0))
  (first|exact HS4.out _ (qAe _ V).drew|(have hz:=HB6.out;clear hz;first|exact HS4.out _ HB7.out|exact HS4.out _ HB6.out))
  (first
  |(go_at_call 18
    (with_reducible refine(CN.out _ ?_).mono ?_)
    · exact(qAe _ V).drew
    rintro e w6 ⟨F',cf',O',co',H',ch',rfl,hR6,hb6⟩
    have HB6:Hid (Below V.heap.size V w6):=(qAe _ V).drew.trans hb6
    have E6:=qAZ (SM.out w6 _ _ _ _ _ _ HB6.out (stL.wide hR6 fun b hb=>hb.2.1))
    clear hR6 hb6)
  |(go_at_call 17
    (with_reducible refine E6.out.mono ?_)
    rintro e w7 ⟨rfl,hb7⟩
    have HB7:Hid (Below V.heap.size V w7):=HB6.out.trans (hb7.mono HB6.out.size)
    clear hb7))
 go_wp2_with fail
 go_ret
 exact⟨rfl,HB0.out.trans ((HB1.out.trans (HBV.out.trans (HB7.out.mono HBV.out.size) |>.mono HB1.out.size)).mono HB0.out.size)⟩
end Go.Proofs.YtconajaecpgjgaaGreat
