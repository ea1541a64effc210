/-
Eqnum Oct Eqoct Sme Eqhnd Effrm Efob Gm Bks An14
-/
import Derived.Test.YtconajaecpgjgaaQ01
import Derived.Test.YtconajaecpgjgaaQ02
import Derived.Test.YtconajaecpgjgaaQ05
import Derived.Test.YtconajaecpgjgaaQ11
import Derived.Test.YtconajaecpgjgaaQ12
import Derived.BigQuiet
import Derived.Laws.Strings
import Derived.Deep.QuietTactic
set_option linter.unusedSimpArgs false
set_option linter.unusedVariables false
set_option maxRecDepth 100000
set_option maxHeartbeats 4000000
namespace Go.Proofs.Ytconajaecpgjgaa
open Go.RowKit
theorem qC {P:Prop} (h:P:=by
 obtain⟨k,q,hk,rfl,heq,rfl⟩:=hrel
 have HE:=zL heq
 clear heq
 by_cases hlt:k<n
 · obtain⟨x,hx⟩:∃x,xs[k]? =some x:=⟨xs[k]'(by rw[HL.out];exact hlt),zM _⟩
   obtain⟨y,hy⟩:∃y,ys[k]? =some y:=⟨ys[k]'(by rw[HM.out];exact hlt),zM _⟩
   obtain⟨a,cs,rfl,hab,hc,hr⟩:=HS.out.at hx
   obtain⟨b,cs2,rfl,hbb,hc2,hr2⟩:=HT.out.at hy
   have HX:=zL hx
   have HY:=zL hy
   clear hx hy
   obtain⟨rfl,-,-⟩:=hr
   obtain⟨rfl,-,-⟩:=hr2
   have c0:=hc 0 _ rfl
   rw[show k*hdL.k+0=k*3 from rfl] at c0
   have c1:=hc 1 _ rfl
   rw[show k*hdL.k+1=k*3+1 from rfl,zV a (k*3) 1 (by omega)] at c1
   have c2:=hc 2 _ rfl
   rw[show k*hdL.k+2=k*3+2 from rfl,zV a (k*3) 2 (by omega)] at c2
   have e0:=hc2 0 _ rfl
   rw[show k*hdL.k+0=k*3 from rfl] at e0
   have e1:=hc2 1 _ rfl
   rw[show k*hdL.k+1=k*3+1 from rfl,zV b (k*3) 1 (by omega)] at e1
   have e2:=hc2 2 _ rfl
   rw[show k*hdL.k+2=k*3+2 from rfl,zV b (k*3) 2 (by omega)] at e2
   clear hc hc2
   have k0:0≤(k:Int):=by omega
   have k1:(k:Int)<(n:Int):=by omega
   by_cases hxy:x=y
   · subst hxy
     go_wp2_with fail
     go_quiet (fail)
     go_wp2_with fail
     refine⟨⟨k+1,_,by omega,by simp,jG HE.out HX.out HY.out rfl,rfl⟩,by simp[intOf];omega⟩
   · have HXY:=zL hxy
     have hout:Hid (xs≠ys):=jy HX.out HY.out hxy
     clear hxy
     obtain⟨x0,x1,x2⟩:=x
     obtain⟨y0,y1,y2⟩:=y
     have HNE:Hid (¬(x0=y0∧x1=y1∧x2=y2)):=fun⟨h0,h1,h2⟩=>HXY.out (by rw[h0,h1,h2])
     clear HXY HX HY
     simp only[hdC] at*
     by_cases g0:x0=y0
     · by_cases g1:x1=y1
       · have g2:¬x2=y2:=fun h=>HNE.out ⟨g0,g1,h⟩
         have b0:(x0==y0)=true:=by simpa using g0
         have b1:((x1:Int)==(y1:Int))=true:=by simp;omega
         have b2:(x2==y2)=false:=by simpa using g2
         clear g0 g1 g2
         go_wp2_with fail
         go_quiet (fail)
         go_wp2_with fail
         go_ret
         exact⟨by rw[decide_eq_false hout.out];rfl,_,World.drewN_drewN _ _ _⟩
       · have b0:(x0==y0)=true:=by simpa using g0
         have b1:((x1:Int)==(y1:Int))=false:=by simp;omega
         clear g0 g1
         go_wp2_with fail
         go_quiet (fail)
         go_wp2_with fail
         go_ret
         exact⟨by rw[decide_eq_false hout.out];rfl,_,World.drewN_drewN _ _ _⟩
     · have b0:(x0==y0)=false:=by simpa using g0
       clear g0
       go_wp2_with fail
       go_quiet (fail)
       go_wp2_with fail
       go_ret
       exact⟨by rw[decide_eq_false hout.out];rfl,_,World.drewN_drewN _ _ _⟩
 · obtain rfl:k=n:=by omega
   go_wp2_with fail
   go_ret
   refine⟨?_,_,rfl⟩
   have e:=HE.out
   rw[zU (by rw[HL.out];exact zQ _),zU (by rw[HM.out];exact zQ _)] at e
   rw[decide_eq_true e]
   rfl):P:=h
theorem qG {P:Prop} (h:P:=by
 obtain⟨k,q,hk,rfl,heq,rfl⟩:=hrel
 have HE:=zL heq
 clear heq
 by_cases hlt:k<n
 · skip
   obtain⟨x,hx⟩:∃x,xs[k]? =some x:=⟨xs[k]'(by rw[HL.out];exact hlt),zM _⟩
   obtain⟨y,hy⟩:∃y,ys[k]? =some y:=⟨ys[k]'(by rw[HM.out];exact hlt),zM _⟩
   obtain⟨a,cs,rfl,hab,hc,hr⟩:=HS.out.at hx
   obtain⟨b,cs2,rfl,hbb,hc2,hr2⟩:=HT.out.at hy
   have HX:=zL hx
   have HY:=zL hy
   clear hx hy
   obtain⟨rfl,-⟩:=hr
   obtain⟨rfl,-⟩:=hr2
   have c0:=zq (K:=numL.k) rfl (hc 0 _ rfl)
   have e0:=zq (K:=numL.k) rfl (hc2 0 _ rfl)
   clear hc hc2
   have k0:0≤(k:Int):=by omega
   have k1:(k:Int)<(n:Int):=by omega
   by_cases hxy:x=y
   · have HXY:=zL hxy
     have t1:((x:Int)==(y:Int))=true:=by simp;omega
     have t2:((x:Int) != (y:Int))=false:=by simp;omega
     have t3:(x==y)=true:=by simp;omega
     have t4:(x != y)=false:=by simp;omega
     clear  hxy
     go_wp2_with fail
     go_quiet (fail)
     go_wp2_with fail
     refine⟨⟨k+1,_,by omega,by simp,jG HE.out HX.out HY.out HXY.out,rfl⟩,by simp[intOf];omega⟩
   · have HXY:=zL hxy
     have t1:((x:Int)==(y:Int))=false:=by simp;omega
     have t2:((x:Int) != (y:Int))=true:=by simp;omega
     have t3:(x==y)=false:=by simp;omega
     have t4:(x != y)=true:=by simp;omega
     go_wp2_with fail
     go_quiet (fail)
     go_wp2_with fail
     go_ret
     exact⟨by rw[jz (jy HX.out HY.out HXY.out)];rfl,_,World.drewN_drewN _ _ _⟩
 · obtain rfl:k=n:=by omega
   go_wp2_with fail
   go_ret
   refine⟨?_,_,rfl⟩
   have e:=HE.out
   rw[zU (by rw[HL.out];exact zQ _),zU (by rw[HM.out];exact zQ _)] at e
   rw[e,z9]
   rfl):P:=h
theorem qb {P:Prop} (h:P:=by
 go_wp2_with fail
 go_ret
 exact⟨by simp[b3],HB0.out⟩):P:=h
theorem qm {P:Prop} (h:P:=by
 go_wp2_with fail
 go_ret
 refine⟨?_,0,rfl⟩
 rw[decide_eq_false (fun e=>HNM.out (by rw[←HL.out,←HM.out,e]))]
 rfl):P:=h
theorem qAK (A B:Option Addr) (n m c d:Nat) (xs ys:List Nat) (w:World) (S T:Nat→Prop) (hl:xs.length=n) (hm:ys.length=m) (h:Sq numL S w A xs) (h':Sq numL T w B ys) (hn2:n≤9223372036854775807) (hm2:m≤9223372036854775807):
 Calls Try.prog 26 #[.slice A n c,.slice B m d] w fun e w'=>e= .returned (.bool (eqB xs ys))∧∃q,w'=w.drewN q:=by
 have HL:=zL hl
 have HM:=zL hm
 have HS:=zL h
 have HT:=zL h'
 clear hl hm h h'
 by_cases hnm:n=m
 · subst hnm
   go_enter Try.func26,Try.ntmps26
   go_wp2_with fail
   go_loopw [13] (fun i wr=>∃k q:Nat,k≤n∧i= .int .i64 (k:Nat)∧xs.take k=ys.take k∧wr=w.drewN q) (fun i _=>n-(intOf i).toNat)
   case atStart=>exact⟨0,0,zY _,rfl,by simp,rfl⟩
   case round=>
    exact qG
 · have h1:((n:Int) != (m:Int))=true:=by simp;omega
   have h2:(n != m)=true:=by simpa using hnm
   have HNM:=zL hnm
   clear hnm
   go_enter Try.func26,Try.ntmps26
   go_wp2_with fail
   go_ret
   refine⟨?_,0,rfl⟩
   exact ql
def octL:Lay Nat where
 k:=1
 R _ _ cs n:=cs=[.int .u8 (n:Int)]∧n<256
 len:=by rintro S w cs x ⟨rfl,_⟩;rfl
 keep:=by rintro S w w' cs x h _;exact h
 wide:=by rintro S T w cs x h _;exact h
 one:=by rintro S w cs x ⟨rfl,_⟩ u hu;simp at hu;subst hu;rfl
theorem qCB {S:Nat→Prop} {w:World} {cs:List Value} {xs:List Nat} (h:(slL octL).R S w cs xs):bytL.R S w cs xs:=by
 obtain⟨A,c,rfl,h1,h2,h3⟩:=h
 refine⟨A,c,rfl,h1,h2,fun hp=> ?_,fun x hx=> ?_⟩
 · obtain⟨a,rfl,hs,hc⟩:=h3 hp
   refine⟨a,rfl,hs,fun j hj=> ?_⟩
   obtain⟨cs,q1,rfl,q2⟩:=hc j _ (zM hj)
   have:=zq (K:=octL.k) rfl (q1 0 _ rfl)
   simpa[hj] using this
 · obtain⟨j,hj⟩:=ze.1 hx
   obtain⟨a,cs,-,-,-,-,q⟩:=h3.at hj
   exact q
theorem qAg {S:Nat→Prop} {w:World} {A:Option Addr} {xs:List Nat} (h:Byt S w A xs) (hb:∀x∈xs,x<256):Sq octL S w A xs:=fun hp=>by
 obtain⟨a,rfl,hs,hc⟩:=h hp
 refine⟨a,rfl,hs,fun j x hx=>⟨[.int .u8 (x:Int)],fun i u hu=> ?_,rfl,hb x (zT hx)⟩⟩
 match i,hu with
 |0,hu=>
  simp at hu
  subst hu
  obtain⟨hj,e⟩:=zR.1 hx
  have:=hc j hj
  rw[show j*octL.k+0=j by show j*1+0=j;omega]
  simpa[hj,e] using this
 |i+1,hu=>simp at hu
theorem qCr (A B:Option Addr) (n m c d:Nat) (xs ys:List Nat) (w:World) (S T:Nat→Prop) (hl:xs.length=n) (hm:ys.length=m) (h:Sq octL S w A xs) (h':Sq octL T w B ys) (hn2:n≤9223372036854775807) (hm2:m≤9223372036854775807):
 Calls Try.prog 27 #[.slice A n c,.slice B m d] w fun e w'=>e= .returned (.bool (eqB xs ys))∧∃q,w'=w.drewN q:=by
 have HL:=zL hl
 have HM:=zL hm
 have HS:=zL h
 have HT:=zL h'
 clear hl hm h h'
 by_cases hnm:n=m
 · subst hnm
   go_enter Try.func27,Try.ntmps27
   go_wp2_with fail
   go_loopw [13] (fun i wr=>∃k q:Nat,k≤n∧i= .int .i64 (k:Nat)∧xs.take k=ys.take k∧wr=w.drewN q) (fun i _=>n-(intOf i).toNat)
   case atStart=>exact⟨0,0,zY _,rfl,by simp,rfl⟩
   case round=>
    obtain⟨k,q,hk,rfl,heq,rfl⟩:=hrel
    have HE:=zL heq
    clear heq
    by_cases hlt:k<n
    · skip
      obtain⟨x,hx⟩:∃x,xs[k]? =some x:=⟨xs[k]'qR,zM _⟩
      obtain⟨y,hy⟩:∃y,ys[k]? =some y:=⟨ys[k]'(by rw[HM.out];exact hlt),zM _⟩
      obtain⟨a,cs,rfl,hab,hc,hr⟩:=HS.out.at hx
      obtain⟨b,cs2,rfl,hbb,hc2,hr2⟩:=HT.out.at hy
      have HX:=zL hx
      have HY:=zL hy
      clear hx hy
      obtain⟨rfl,-⟩:=hr
      obtain⟨rfl,-⟩:=hr2
      have c0:=zq (K:=octL.k) rfl (hc 0 _ rfl)
      have e0:=zq (K:=octL.k) rfl (hc2 0 _ rfl)
      clear hc hc2
      have k0:0≤(k:Int):=by omega
      have k1:(k:Int)<(n:Int):=by omega
      by_cases hxy:x=y
      · have HXY:=zL hxy
        have t1:((x:Int)==(y:Int))=true:=by simp;omega
        have t2:((x:Int) != (y:Int))=false:=by simp;omega
        have t3:(x==y)=true:=by simp;omega
        have t4:(x != y)=false:=by simp;omega
        clear  hxy
        go_wp2_with fail
        go_quiet (fail)
        go_wp2_with fail
        refine⟨⟨k+1,_,by omega,by simp,jG HE.out HX.out HY.out HXY.out,rfl⟩,by simp[intOf];omega⟩
      · have HXY:=zL hxy
        have t1:((x:Int)==(y:Int))=false:=by simp;omega
        have t2:((x:Int) != (y:Int))=true:=by simp;omega
        have t3:(x==y)=false:=by simp;omega
        have t4:(x != y)=true:=by simp;omega
        go_wp2_with fail
        go_quiet (fail)
        go_wp2_with fail
        go_ret
        exact⟨by rw[jz (jy HX.out HY.out HXY.out)];rfl,_,World.drewN_drewN _ _ _⟩
    · obtain rfl:k=n:=by omega
      go_wp2_with fail
      go_ret
      refine⟨?_,_,rfl⟩
      exact qw
 · have h1:((n:Int) != (m:Int))=true:=by simp;omega
   have h2:(n != m)=true:=by simpa using hnm
   have HNM:=zL hnm
   clear hnm
   go_enter Try.func27,Try.ntmps27
   go_wp2_with fail
   go_ret
   refine⟨?_,0,rfl⟩
   exact ql
def sameB (xs ys:List Nat):Bool:=decide (xs=ys)
theorem qC6 (A B:Option Addr) (c d:Nat) (xs ys:List Nat) (w:World) (S T:Nat→Prop) (hA:Byt S w A xs) (hB:Byt T w B ys) (hx:xs.length≤140737488355328) (hy:ys.length≤140737488355328):
 Calls Try.prog 28 #[.slice A xs.length c,.slice B ys.length d] w fun e w'=>e= .returned (.bool (sameB xs ys))∧∃n,w'=w.drewN n:=by
 have HA:=zL hA
 have HB:=zL hB
 clear hA hB
 by_cases hl:xs.length=ys.length
 · have HL:=zL hl
   have h1:((xs.length:Int) != (ys.length:Int))=false:=by simp;omega
   have h2:((xs.length) != (ys.length))=false:=by simp;omega
   clear hl
   go_enter Try.func28,Try.ntmps28
   go_wp2_with fail
   go_loopw [5] (fun i wr=>∃k n:Nat,k≤xs.length∧i= .int .i64 (k:Nat)∧(∀j,j<k→xs[j]?.getD 0=ys[j]?.getD 0)∧wr=w.drewN n) (fun i _=>xs.length-(intOf i).toNat)
   case atStart=>exact⟨0,0,zY _,rfl,fun j hj=>absurd hj (by omega),rfl⟩
   case round=>
    obtain⟨k,n,hk,rfl,heq,rfl⟩:=hrel
    have HE:=zL heq
    clear heq
    by_cases hlt:k<xs.length
    · have hlt2:k<ys.length:=by have:=HL.out;omega
      obtain⟨a,rfl,_,ha⟩:=HA.out.at (k:=k) hlt
      obtain⟨b,rfl,_,hb⟩:=HB.out.at (k:=k) hlt2
      obtain⟨x,hx⟩:∃x,xs[k]?.getD 0=x:=⟨_,rfl⟩
      obtain⟨y,hy⟩:∃y,ys[k]?.getD 0=y:=⟨_,rfl⟩
      rw[hx] at ha
      rw[hy] at hb
      have HX:=zL hx
      have HY:=zL hy
      have k0:0≤(k:Int):=by omega
      have k1:(k:Int)<(xs.length:Int):=by omega
      have k2:(k:Int)<(ys.length:Int):=by omega
      clear hx hy
      by_cases hxy:x=y
      · have t1:((x:Int) != (y:Int))=false:=by simp;omega
        have hXY:=zL hxy
        clear hxy
        go_wp2
        go_quiet (fail)
        go_wp2
        refine⟨⟨k+1,_,by omega,by simp,fun j hj=> ?_,rfl⟩,by simp[intOf];omega⟩
        rcases Nat.lt_or_ge j k with h|h
        · exact HE.out j h
        · obtain rfl:j=k:=by omega
          rw[HX.out,HY.out]
          exact hXY.out
      · have t1:((x:Int) != (y:Int))=true:=by simp;omega
        have hXY:=zL hxy
        clear hxy
        go_wp2
        go_quiet (fail)
        go_wp2
        go_ret
        have h3:sameB xs ys=false:=by
         simp only[sameB,decide_eq_false_iff_not]
         rintro rfl
         exact hXY.out (HX.out.symm.trans HY.out)
        exact⟨by rw[h3];rfl,_,World.drewN_drewN _ _ _⟩
    · go_wp2
      go_ret
      have h3:sameB xs ys=true:=by
       simp only[sameB,decide_eq_true_eq]
       refine List.ext_getElem HL.out fun j h1 h2=> ?_
       have:=HE.out j (by omega)
       simpa[h1,h2] using this
      exact⟨by rw[h3];rfl,_,rfl⟩
 · have h1:((xs.length:Int) != (ys.length:Int))=true:=by simp;omega
   have h2:((xs.length) != (ys.length))=true:=by simp;omega
   have h3:sameB xs ys=false:=by
    simp only[sameB,decide_eq_false_iff_not]
    rintro rfl
    exact hl rfl
   have HL:=zL hl
   clear hl
   go_enter Try.func28,Try.ntmps28
   go_wp2
   go_ret
   exact⟨by rw[h3];rfl,0,rfl⟩
theorem qCs (A B:Option Addr) (n m c d:Nat) (xs ys:List Hnd) (w:World) (S T:Nat→Prop) (hl:xs.length=n) (hm:ys.length=m) (h:Sq hdL S w A xs) (h':Sq hdL T w B ys) (hn2:n≤9223372036854775807) (hm2:m≤9223372036854775807):
 Calls Try.prog 20 #[.slice A n c,.slice B m d] w fun e w'=>e= .returned (.bool (decide (xs=ys)))∧∃q,w'=w.drewN q:=by
 have HL:=zL hl
 have HM:=zL hm
 have HS:=zL h
 have HT:=zL h'
 clear hl hm h h'
 by_cases hnm:n=m
 · subst hnm
   go_enter Try.func20,Try.ntmps20
   go_wp2_with fail
   go_loopw [13] (fun i wr=>∃k q:Nat,k≤n∧i= .int .i64 (k:Nat)∧xs.take k=ys.take k∧wr=w.drewN q) (fun i _=>n-(intOf i).toNat)
   case atStart=>exact⟨0,0,zY _,rfl,by simp,rfl⟩
   case round=>
    exact qC
 · have h1:((n:Int) != (m:Int))=true:=by simp;omega
   have h2:(n != m)=true:=by simpa using hnm
   have HNM:=zL hnm
   clear hnm
   go_enter Try.func20,Try.ntmps20
   exact qm
theorem qAr (A B:Option Addr) (n m c d:Nat) (xs ys:List Frm) (w:World) (hl:xs.length=n) (hm:ys.length=m) (h:Sq frL (·<w.heap.size) w A xs) (h':Sq frL (·<w.heap.size) w B ys) (hn2:n≤9223372036854775807) (hm2:m≤9223372036854775807)
 (hP:∀(w1:World) (cs cs2:List Value) (x y:Frm),frL.R (·<w1.heap.size) w1 cs x→frL.R (·<w1.heap.size) w1 cs2 y→Calls Try.prog 17 #[vAgg cs,vAgg cs2] w1 (Tells (eqB x y) w1)):
 Calls Try.prog 16 #[.slice A n c,.slice B m d,.func (.func 17) #[] #[]] w (Tells (eqB xs ys) w):=by
 have HL:=zL hl
 have HM:=zL hm
 have HS:=zL h
 have HT:=zL h'
 have HP0:=zL hP
 clear hl hm h h' hP
 by_cases hnm:n=m
 · subst hnm
   go_enter Try.func16,Try.ntmps16
   go_wp2_with fail
   go_loopw [17] (fun i wr=>∃k:Nat,k≤n∧i= .int .i64 (k:Nat)∧xs.take k=ys.take k∧Below w.heap.size w wr) (fun i _=>n-(intOf i).toNat)
   case atStart=>exact⟨0,zY _,rfl,by simp,zS _ _⟩
   case round=>
    obtain⟨k,hk,rfl,heq,hbel⟩:=hrel
    have HE:=zL heq
    have HB:=zL hbel
    have hs:=hbel.size
    clear heq hbel
    by_cases hlt:k<n
    · skip
      obtain⟨x,hx⟩:∃x,xs[k]? =some x:=⟨xs[k]'qR,zM _⟩
      obtain⟨y,hy⟩:∃y,ys[k]? =some y:=⟨ys[k]'(by rw[HM.out];exact hlt),zM _⟩
      obtain⟨a,cs,rfl,hab,hc,hr⟩:=HS.out.at hx
      obtain⟨b,cs2,rfl,hbb,hc2,hr2⟩:=HT.out.at hy
      have HX:=zL hx
      have HY:=zL hy
      have HR:=zL hr
      have HR2:=zL hr2
      clear hx hy
      obtain⟨p0,p1,rfl,-,-,⟨A4,d4,e4,-⟩,⟨A5,d5,e5,-⟩⟩:=hr
      simp only[List.cons.injEq,and_true] at e4 e5
      subst e4 e5
      obtain⟨q0,q1,rfl,-,-,⟨B4,g4,i4,-⟩,⟨B5,g5,i5,-⟩⟩:=hr2
      simp only[List.cons.injEq,and_true] at i4 i5
      subst i4 i5
      have c0:=(HB.out.cell (p:=a.add (k*4)) qI).trans (hc 0 _ rfl)
      have c1:=(HB.out.cell (p:=a.add (k*4+1)) qI).trans (hc 1 _ rfl)
      rw[zV a (k*4) 1 (by omega)] at c1
      have c2:=(HB.out.cell (p:=a.add (k*4+2)) qI).trans (hc 2 _ rfl)
      rw[zV a (k*4) 2 (by omega)] at c2
      have c3:=(HB.out.cell (p:=a.add (k*4+3)) qI).trans (hc 3 _ rfl)
      rw[zV a (k*4) 3 (by omega)] at c3
      have k0:=fun ob=>((HB.out.alloc hs ob).cell (p:=b.add (k*4)) qn).trans (hc2 0 _ rfl)
      have k1:=fun ob=>((HB.out.alloc hs ob).cell (p:=b.add (k*4+1)) qn).trans (hc2 1 _ rfl)
      rw[zV b (k*4) 1 (by omega)] at k1
      have k2:=fun ob=>((HB.out.alloc hs ob).cell (p:=b.add (k*4+2)) qn).trans (hc2 2 _ rfl)
      rw[zV b (k*4) 2 (by omega)] at k2
      have k3:=fun ob=>((HB.out.alloc hs ob).cell (p:=b.add (k*4+3)) qn).trans (hc2 3 _ rfl)
      rw[zV b (k*4) 3 (by omega)] at k3
      have HP:Hid (∀w1,Below w.heap.size w w1→Calls Try.prog 17 #[.agg #[.int .i64 x.fn,.int .i64 x.pc,.slice A4 x.locs.length d4,.slice A5 x.stk.length d5],.agg #[.int .i64 y.fn,.int .i64 y.pc,.slice B4 y.locs.length g4,.slice B5 y.stk.length g5]] w1 (Tells (eqB x y) w1)):=fun w1 hb=>HP0.out w1 [.int .i64 x.fn,.int .i64 x.pc,.slice A4 x.locs.length d4,.slice A5 x.stk.length d5] [.int .i64 y.fn,.int .i64 y.pc,.slice B4 y.locs.length g4,.slice B5 y.stk.length g5] x y (frL.wide (frL.keep HR.out fun b hb1=>hb.block b hb1) fun b hb1=>zP hb1 hb.size) (frL.wide (frL.keep HR2.out fun b hb1=>hb.block b hb1) fun b hb1=>zP hb1 hb.size)
      clear hc hc2
      cases hg:eqB x y
      all_goals
       rw[hg] at HP
       have HG:=zL hg
       clear hg
       go_wp2_with (first
        |(go_at_call 17
          refine(HP.out _ ((HB.out.alloc hs _).alloc qT _)).mono ?_
          rintro e w2 ⟨rfl,hb2⟩
          have Hb2:=zL (((HB.out.alloc hs _).alloc qT _).trans (hb2.mono qT))
          clear hb2))
      · go_ret
        exact⟨by rw[jz (jy HX.out HY.out (qAL HG.out))];rfl,Hb2.out⟩
      · refine⟨⟨k+1,by omega,by simp,jG HE.out HX.out HY.out (jD.1 HG.out),Hb2.out⟩,by simp[intOf];omega⟩
    · obtain rfl:k=n:=by omega
      go_wp2_with fail
      go_ret
      refine⟨?_,HB.out⟩
      exact qw
 · have h1:((n:Int) != (m:Int))=true:=by simp;omega
   have h2:(n != m)=true:=by simpa using hnm
   have HNM:=zL hnm
   clear hnm
   go_enter Try.func16,Try.ntmps16
   go_wp2_with fail
   go_ret
   refine⟨?_,zS _ _⟩
   exact ql
theorem qBB (A B:Option Addr) (n m c d:Nat) (xs ys:List Ob) (w:World) (hl:xs.length=n) (hm:ys.length=m) (h:Sq obL (·<w.heap.size) w A xs) (h':Sq obL (·<w.heap.size) w B ys) (hn2:n≤9223372036854775807) (hm2:m≤9223372036854775807)
 (hP:∀(w1:World) (cs cs2:List Value) (x y:Ob),obL.R (·<w1.heap.size) w1 cs x→obL.R (·<w1.heap.size) w1 cs2 y→Calls Try.prog 19 #[vAgg cs,vAgg cs2] w1 (Tells (eqB x y) w1)):
 Calls Try.prog 18 #[.slice A n c,.slice B m d,.func (.func 19) #[] #[]] w (Tells (eqB xs ys) w):=by
 have HL:=zL hl
 have HM:=zL hm
 have HS:=zL h
 have HT:=zL h'
 have HP0:=zL hP
 clear hl hm h h' hP
 by_cases hnm:n=m
 · subst hnm
   go_enter Try.func18,Try.ntmps18
   go_wp2_with fail
   go_loopw [17] (fun i wr=>∃k:Nat,k≤n∧i= .int .i64 (k:Nat)∧xs.take k=ys.take k∧Below w.heap.size w wr) (fun i _=>n-(intOf i).toNat)
   case atStart=>exact⟨0,zY _,rfl,by simp,zS _ _⟩
   case round=>
    obtain⟨k,hk,rfl,heq,hbel⟩:=hrel
    have HE:=zL heq
    have HB:=zL hbel
    have hs:=hbel.size
    clear heq hbel
    by_cases hlt:k<n
    · skip
      obtain⟨x,hx⟩:∃x,xs[k]? =some x:=⟨xs[k]'qR,zM _⟩
      obtain⟨y,hy⟩:∃y,ys[k]? =some y:=⟨ys[k]'(by rw[HM.out];exact hlt),zM _⟩
      obtain⟨a,cs,rfl,hab,hc,hr⟩:=HS.out.at hx
      obtain⟨b,cs2,rfl,hbb,hc2,hr2⟩:=HT.out.at hy
      have HX:=zL hx
      have HY:=zL hy
      have HR:=zL hr
      have HR2:=zL hr2
      clear hx hy
      obtain⟨p0,p1,rfl,-,-,⟨A4,d4,e4,-⟩,⟨A5,d5,e5,-⟩⟩:=hr
      simp only[List.cons.injEq,and_true] at e4 e5
      subst e4 e5
      obtain⟨q0,q1,rfl,-,-,⟨B4,g4,i4,-⟩,⟨B5,g5,i5,-⟩⟩:=hr2
      simp only[List.cons.injEq,and_true] at i4 i5
      subst i4 i5
      have c0:=(HB.out.cell (p:=a.add (k*4)) qI).trans (hc 0 _ rfl)
      have c1:=(HB.out.cell (p:=a.add (k*4+1)) qI).trans (hc 1 _ rfl)
      rw[zV a (k*4) 1 (by omega)] at c1
      have c2:=(HB.out.cell (p:=a.add (k*4+2)) qI).trans (hc 2 _ rfl)
      rw[zV a (k*4) 2 (by omega)] at c2
      have c3:=(HB.out.cell (p:=a.add (k*4+3)) qI).trans (hc 3 _ rfl)
      rw[zV a (k*4) 3 (by omega)] at c3
      have k0:=fun ob=>((HB.out.alloc hs ob).cell (p:=b.add (k*4)) qn).trans (hc2 0 _ rfl)
      have k1:=fun ob=>((HB.out.alloc hs ob).cell (p:=b.add (k*4+1)) qn).trans (hc2 1 _ rfl)
      rw[zV b (k*4) 1 (by omega)] at k1
      have k2:=fun ob=>((HB.out.alloc hs ob).cell (p:=b.add (k*4+2)) qn).trans (hc2 2 _ rfl)
      rw[zV b (k*4) 2 (by omega)] at k2
      have k3:=fun ob=>((HB.out.alloc hs ob).cell (p:=b.add (k*4+3)) qn).trans (hc2 3 _ rfl)
      rw[zV b (k*4) 3 (by omega)] at k3
      have HP:Hid (∀w1,Below w.heap.size w w1→Calls Try.prog 19 #[.agg #[.int .i64 x.kind,.int .i64 x.n,.slice A4 x.words.length d4,.slice A5 x.bytes.length d5],.agg #[.int .i64 y.kind,.int .i64 y.n,.slice B4 y.words.length g4,.slice B5 y.bytes.length g5]] w1 (Tells (eqB x y) w1)):=fun w1 hb=>HP0.out w1 [.int .i64 x.kind,.int .i64 x.n,.slice A4 x.words.length d4,.slice A5 x.bytes.length d5] [.int .i64 y.kind,.int .i64 y.n,.slice B4 y.words.length g4,.slice B5 y.bytes.length g5] x y (obL.wide (obL.keep HR.out fun b hb1=>hb.block b hb1) fun b hb1=>zP hb1 hb.size) (obL.wide (obL.keep HR2.out fun b hb1=>hb.block b hb1) fun b hb1=>zP hb1 hb.size)
      clear hc hc2
      cases hg:eqB x y
      all_goals
       rw[hg] at HP
       have HG:=zL hg
       clear hg
       go_wp2_with (first
        |(go_at_call 19
          refine(HP.out _ ((HB.out.alloc hs _).alloc qT _)).mono ?_
          rintro e w2 ⟨rfl,hb2⟩
          have Hb2:=zL (((HB.out.alloc hs _).alloc qT _).trans (hb2.mono qT))
          clear hb2))
      · go_ret
        exact⟨by rw[jz (jy HX.out HY.out (qAL HG.out))];rfl,Hb2.out⟩
      · refine⟨⟨k+1,by omega,by simp,jG HE.out HX.out HY.out (jD.1 HG.out),Hb2.out⟩,by simp[intOf];omega⟩
    · obtain rfl:k=n:=by omega
      go_wp2_with fail
      go_ret
      refine⟨?_,HB.out⟩
      exact qw
 · have h1:((n:Int) != (m:Int))=true:=by simp;omega
   have h2:(n != m)=true:=by simpa using hnm
   have HNM:=zL hnm
   clear hnm
   go_enter Try.func18,Try.ntmps18
   go_wp2_with fail
   go_ret
   refine⟨?_,zS _ _⟩
   exact ql
theorem zk {α:Type} {La:Lay α} {w v:World} {A:Option Addr} {xs:List α} (h:Sq La (·<w.heap.size) w A xs) (hb:Below w.heap.size w v):Sq La (·<v.heap.size) v A xs:=(h.keep fun b h1=>hb.block b h1).wide fun b h1=>zP h1 hb.size
theorem qAm {α:Type} [DecidableEq α] (a b:α):eqB a b=decide (a=b):=by rw[Bool.eq_iff_iff,jD,decide_eq_true_eq]
theorem qDQ (x y:List Nat):eqB x y=sameB x y:=by rw[Bool.eq_iff_iff];simp[jD,sameB]
theorem qAY (x y:Frm):eqB x y=(decide (x.fn=y.fn) && decide (x.pc=y.pc) && eqB x.locs y.locs && eqB x.stk y.stk):=by
 rw[Bool.eq_iff_iff]
 simp only[Bool.and_eq_true,decide_eq_true_eq,jD]
 exact⟨fun h=>by subst h;simp,fun h=>Frm.eq_of h.1.1.1 h.1.1.2 h.1.2 h.2⟩
theorem eqB_ob (x y:Ob):eqB x y=(decide (x.kind=y.kind) && decide (x.n=y.n) && eqB x.words y.words && sameB x.bytes y.bytes):=by
 rw[Bool.eq_iff_iff]
 simp only[Bool.and_eq_true,decide_eq_true_eq,jD,sameB]
 exact⟨fun h=>by subst h;simp,fun h=>Ob.eq_of h.1.1.1 h.1.1.2 h.1.2 h.2⟩
theorem qCL (x y:Stt):eqB x y=(decide (x.quota=y.quota) && decide (x.used=y.used) && decide (x.fin=y.fin) && decide (x.val=y.val) && eqB x.fr y.fr && eqB x.hp y.hp && eqB x.hn y.hn):=by
 rw[Bool.eq_iff_iff]
 simp only[Bool.and_eq_true,decide_eq_true_eq,jD]
 exact⟨fun h=>by subst h;simp,fun h=>Stt.eq_of h.1.1.2 h.1.2 h.2 h.1.1.1.1.1.1 h.1.1.1.1.1.2 h.1.1.1.1.2 h.1.1.1.2⟩
theorem qAo (cs cs2:List Value) (x y:Frm) (w:World) (h:frL.R (·<w.heap.size) w cs x) (h':frL.R (·<w.heap.size) w cs2 y):Calls Try.prog 17 #[vAgg cs,vAgg cs2] w (Tells (eqB x y) w):=by
 obtain⟨A4,d4,A5,d5,rfl,l4a,l4,l5a,l5,s4,s5,-,-⟩:=jC h
 obtain⟨B4,g4,B5,g5,rfl,m4a,m4,m5a,m5,t4,t5,-,-⟩:=jC h'
 have r1:x.locs.length≤maxLen:=by omega
 have r2:x.stk.length≤maxLen:=by omega
 have r3:y.locs.length≤maxLen:=by omega
 have r4:y.stk.length≤maxLen:=by omega
 unfold maxLen at r1 r2 r3 r4
 have T0:Hid (∀w1,Below w.heap.size w w1→Calls Try.prog 26 #[.slice A4 x.locs.length d4,.slice B4 y.locs.length g4] w1 (Tells (eqB x.locs y.locs) w1)):=fun w1 hb=>(qAK A4 B4 _ _ d4 g4 x.locs y.locs w1 _ _ rfl rfl (zk s4 hb) (zk t4 hb) (by omega) (by omega)).mono fun e w2 h=>⟨h.1,by obtain⟨q,rfl⟩:=h.2;exact zm _ _⟩
 have T1:Hid (∀w1,Below w.heap.size w w1→Calls Try.prog 26 #[.slice A5 x.stk.length d5,.slice B5 y.stk.length g5] w1 (Tells (eqB x.stk y.stk) w1)):=fun w1 hb=>(qAK A5 B5 _ _ d5 g5 x.stk y.stk w1 _ _ rfl rfl (zk s5 hb) (zk t5 hb) (by omega) (by omega)).mono fun e w2 h=>⟨h.1,by obtain⟨q,rfl⟩:=h.2;exact zm _ _⟩
 clear s4 s5 t4 t5 r1 r2 r3 r4 l4 l5 m4 m5 l4a l5a m4a m5a
 show Calls Try.prog 17 #[.agg #[.int .i64 x.fn,.int .i64 x.pc,.slice A4 x.locs.length d4,.slice A5 x.stk.length d5],.agg #[.int .i64 y.fn,.int .i64 y.pc,.slice B4 y.locs.length g4,.slice B5 y.stk.length g5]] w (Tells (eqB x y) w)
 rw[qAY]
 generalize x.locs.length=n0 at*
 generalize y.locs.length=m0 at*
 generalize x.stk.length=n1 at*
 generalize y.stk.length=m1 at*
 generalize eqB x.locs y.locs=b0 at*
 generalize eqB x.stk y.stk=b1 at*
 generalize x.fn=k1 at*
 generalize x.pc=k2 at*
 generalize y.fn=k3 at*
 generalize y.pc=k4 at*
 have HB0:Hid (Below w.heap.size w ((w.alloc (.cells #[.int .i64 k1,.int .i64 k2,.slice A4 n0 d4,.slice A5 n1 d5] 34)).alloc (.cells #[.int .i64 k3,.int .i64 k4,.slice B4 m0 g4,.slice B5 m1 g5] 34))):=((zS _ _).alloc (zQ _) _).alloc (by simp) _
 have HC:Hid (∀v,Below w.heap.size w v→(∀u,Below v.heap.size v u→C4 w.heap.size (.int .i64 k1) (.int .i64 k2) (.slice A4 n0 d4) (.slice A5 n1 d5) v→C4 (w.heap.size+1) (.int .i64 k3) (.int .i64 k4) (.slice B4 m0 g4) (.slice B5 m1 g5) v→w.heap.size+1<v.heap.size→C4 w.heap.size (.int .i64 k1) (.int .i64 k2) (.slice A4 n0 d4) (.slice A5 n1 d5) u∧C4 (w.heap.size+1) (.int .i64 k3) (.int .i64 k4) (.slice B4 m0 g4) (.slice B5 m1 g5) u)):=fun v _ u hu h1 h2 hs=>⟨h1.below hu (by omega),h2.below hu hs⟩
 have HC0:=zL (fun u hu=>HC.out _ HB0.out u hu (by simp[C4,go_sem]) (by simp[C4,go_sem]) (by simp))
 by_cases g1:k1=k3
 · subst g1
   by_cases g2:k2=k4
   · subst g2
     rcases b0 with _|_
     all_goals
      go_enter Try.func17,Try.ntmps17
      go_wp2_with (first
       |(go_at_call 26
         (with_reducible refine(T1.out _ ?_).mono ?_)
         · exact HB1.out
         rintro e w2 ⟨rfl,hb2⟩
         have HB2:=zL (HB1.out.trans (hb2.mono HB1.out.size))
         clear hb2)
       |(go_at_call 26
         (with_reducible refine(T0.out _ ?_).mono ?_)
         · exact HB0.out
         rintro e w1 ⟨rfl,hb1⟩
         obtain⟨⟨y0,y1,y2,y3⟩,z0,z1,z2,z3⟩:=HC0.out w1 hb1
         have HB1:=zL (HB0.out.trans (hb1.mono HB0.out.size))
         clear hb1))
      go_ret
     all_goals first|exact⟨by simp,HB2.out⟩|exact⟨by simp,HB1.out⟩
   · have b2:(k2==k4)=false:=by simpa using g2
     have b3:decide (k2=k4)=false:=by simpa using g2
     clear g2
     go_enter Try.func17,Try.ntmps17
     exact qb
 · have b2:(k1==k3)=false:=by simpa using g1
   have b3:decide (k1=k3)=false:=by simpa using g1
   clear g1
   go_enter Try.func17,Try.ntmps17
   exact qb
theorem qAd (cs cs2:List Value) (x y:Ob) (w:World) (h:obL.R (·<w.heap.size) w cs x) (h':obL.R (·<w.heap.size) w cs2 y):Calls Try.prog 19 #[vAgg cs,vAgg cs2] w (Tells (eqB x y) w):=by
 obtain⟨A4,d4,A5,d5,rfl,l4a,l4,l5a,l5,s4,s5,hxb,-,-⟩:=jH h
 obtain⟨B4,g4,B5,g5,rfl,m4a,m4,m5a,m5,t4,t5,hyb,-,-⟩:=jH h'
 have r1:x.words.length≤maxLen:=by omega
 have r2:x.bytes.length≤maxLen:=by omega
 have r3:y.words.length≤maxLen:=by omega
 have r4:y.bytes.length≤maxLen:=by omega
 unfold maxLen at r1 r2 r3 r4
 have T0:Hid (∀w1,Below w.heap.size w w1→Calls Try.prog 26 #[.slice A4 x.words.length d4,.slice B4 y.words.length g4] w1 (Tells (eqB x.words y.words) w1)):=fun w1 hb=>(qAK A4 B4 _ _ d4 g4 x.words y.words w1 _ _ rfl rfl (zk s4 hb) (zk t4 hb) (by omega) (by omega)).mono fun e w2 h=>⟨h.1,by obtain⟨q,rfl⟩:=h.2;exact zm _ _⟩
 have T1:Hid (∀w1,Below w.heap.size w w1→Calls Try.prog 27 #[.slice A5 x.bytes.length d5,.slice B5 y.bytes.length g5] w1 (Tells (sameB x.bytes y.bytes) w1)):=fun w1 hb=>(qCr A5 B5 _ _ d5 g5 x.bytes y.bytes w1 _ _ rfl rfl (zk (qAg s5 hxb) hb) (zk (qAg t5 hyb) hb) (by omega) (by omega)).mono fun e w2 h=>⟨by rw[h.1];simp[qDQ],by obtain⟨q,rfl⟩:=h.2;exact zm _ _⟩
 clear s4 s5 t4 t5 r1 r2 r3 r4 l4 l5 m4 m5 l4a l5a m4a m5a hxb hyb
 show Calls Try.prog 19 #[.agg #[.int .i64 x.kind,.int .i64 x.n,.slice A4 x.words.length d4,.slice A5 x.bytes.length d5],.agg #[.int .i64 y.kind,.int .i64 y.n,.slice B4 y.words.length g4,.slice B5 y.bytes.length g5]] w (Tells (eqB x y) w)
 rw[eqB_ob]
 generalize x.words.length=n0 at*
 generalize y.words.length=m0 at*
 generalize x.bytes.length=n1 at*
 generalize y.bytes.length=m1 at*
 generalize eqB x.words y.words=b0 at*
 generalize sameB x.bytes y.bytes=b1 at*
 generalize x.kind=k1 at*
 generalize x.n=k2 at*
 generalize y.kind=k3 at*
 generalize y.n=k4 at*
 have HB0:Hid (Below w.heap.size w ((w.alloc (.cells #[.int .i64 k1,.int .i64 k2,.slice A4 n0 d4,.slice A5 n1 d5] 37)).alloc (.cells #[.int .i64 k3,.int .i64 k4,.slice B4 m0 g4,.slice B5 m1 g5] 37))):=((zS _ _).alloc (zQ _) _).alloc (by simp) _
 have HC:Hid (∀v,Below w.heap.size w v→(∀u,Below v.heap.size v u→C4 w.heap.size (.int .i64 k1) (.int .i64 k2) (.slice A4 n0 d4) (.slice A5 n1 d5) v→C4 (w.heap.size+1) (.int .i64 k3) (.int .i64 k4) (.slice B4 m0 g4) (.slice B5 m1 g5) v→w.heap.size+1<v.heap.size→C4 w.heap.size (.int .i64 k1) (.int .i64 k2) (.slice A4 n0 d4) (.slice A5 n1 d5) u∧C4 (w.heap.size+1) (.int .i64 k3) (.int .i64 k4) (.slice B4 m0 g4) (.slice B5 m1 g5) u)):=fun v _ u hu h1 h2 hs=>⟨h1.below hu (by omega),h2.below hu hs⟩
 have HC0:=zL (fun u hu=>HC.out _ HB0.out u hu (by simp[C4,go_sem]) (by simp[C4,go_sem]) (by simp))
 by_cases g1:k1=k3
 · subst g1
   by_cases g2:k2=k4
   · subst g2
     rcases b0 with _|_
     all_goals
      go_enter Try.func19,Try.ntmps19
      go_wp2_with (first
       |(go_at_call 27
         (with_reducible refine(T1.out _ ?_).mono ?_)
         · exact HB1.out
         rintro e w2 ⟨rfl,hb2⟩
         have HB2:=zL (HB1.out.trans (hb2.mono HB1.out.size))
         clear hb2)
       |(go_at_call 26
         (with_reducible refine(T0.out _ ?_).mono ?_)
         · exact HB0.out
         rintro e w1 ⟨rfl,hb1⟩
         obtain⟨⟨y0,y1,y2,y3⟩,z0,z1,z2,z3⟩:=HC0.out w1 hb1
         have HB1:=zL (HB0.out.trans (hb1.mono HB0.out.size))
         clear hb1))
      go_ret
     all_goals first|exact⟨by simp,HB2.out⟩|exact⟨by simp,HB1.out⟩
   · have b2:(k2==k4)=false:=by simpa using g2
     have b3:decide (k2=k4)=false:=by simpa using g2
     clear g2
     go_enter Try.func19,Try.ntmps19
     exact qb
 · have b2:(k1==k3)=false:=by simpa using g1
   have b3:decide (k1=k3)=false:=by simpa using g1
   clear g1
   go_enter Try.func19,Try.ntmps19
   exact qb
theorem ju (cs cs2:List Value) (x y:Stt) (w:World) (h:stL.R (·<w.heap.size) w cs x) (h':stL.R (·<w.heap.size) w cs2 y):Calls Try.prog 8 #[vAgg cs,vAgg cs2] w (Tells (eqB x y) w):=by
 obtain⟨A0,c0,A1,c1,A2,c2,rfl,k0a,k0,k1a,k1,k2a,k2,s0,s1,s2,-,-,-,-⟩:=zu h
 obtain⟨B0,d0,B1,d1,B2,d2,rfl,l0a,l0,l1a,l1,l2a,l2,t0,t1,t2,-,-,-,-⟩:=zu h'
 have r1:x.fr.length≤maxLen∧x.hp.length≤maxLen∧x.hn.length≤maxLen:=by omega
 have r2:y.fr.length≤maxLen∧y.hp.length≤maxLen∧y.hn.length≤maxLen:=by omega
 unfold maxLen at r1 r2
 have T0:Hid (∀w1,Below w.heap.size w w1→Calls Try.prog 16 #[.slice A0 x.fr.length c0,.slice B0 y.fr.length d0,.func (.func 17) #[] #[]] w1 (Tells (eqB x.fr y.fr) w1)):=fun w1 hb=>qAr A0 B0 _ _ c0 d0 x.fr y.fr w1 rfl rfl (zk s0 hb) (zk t0 hb) (by omega) (by omega) fun w2 cs cs2 a b ha hb=>qAo cs cs2 a b w2 ha hb
 have T1:Hid (∀w1,Below w.heap.size w w1→Calls Try.prog 18 #[.slice A1 x.hp.length c1,.slice B1 y.hp.length d1,.func (.func 19) #[] #[]] w1 (Tells (eqB x.hp y.hp) w1)):=fun w1 hb=>qBB A1 B1 _ _ c1 d1 x.hp y.hp w1 rfl rfl (zk s1 hb) (zk t1 hb) (by omega) (by omega) fun w2 cs cs2 a b ha hb=>qAd cs cs2 a b w2 ha hb
 have T2:Hid (∀w1,Below w.heap.size w w1→Calls Try.prog 20 #[.slice A2 x.hn.length c2,.slice B2 y.hn.length d2] w1 (Tells (eqB x.hn y.hn) w1)):=fun w1 hb=>(qCs A2 B2 _ _ c2 d2 x.hn y.hn w1 _ _ rfl rfl (zk s2 hb) (zk t2 hb) (by omega) (by omega)).mono fun e w2 h=>⟨by rw[h.1,qAm],by obtain⟨q,rfl⟩:=h.2;exact zm _ _⟩
 clear k0 k1 k2 l0 l1 l2 k0a k1a k2a l0a l1a l2a s0 s1 s2 t0 t1 t2 r1 r2 h h'
 show Calls Try.prog 8 #[.agg #[.slice A0 x.fr.length c0,.slice A1 x.hp.length c1,.slice A2 x.hn.length c2,.int .i64 x.quota,.int .i64 x.used,.int .i64 x.fin,.int .u64 (x.val:Int)],.agg #[.slice B0 y.fr.length d0,.slice B1 y.hp.length d1,.slice B2 y.hn.length d2,.int .i64 y.quota,.int .i64 y.used,.int .i64 y.fin,.int .u64 (y.val:Int)]] w (Tells (eqB x y) w)
 rw[qCL]
 have e4:decide (x.val=y.val)=decide ((x.val:Int)=(y.val:Int)):=by rw[Bool.eq_iff_iff];simp;omega
 rw[e4]
 clear e4
 generalize x.fr.length=n0 at*
 generalize y.fr.length=m0 at*
 generalize x.hp.length=n1 at*
 generalize y.hp.length=m1 at*
 generalize x.hn.length=n2 at*
 generalize y.hn.length=m2 at*
 generalize eqB x.fr y.fr=b0 at*
 generalize eqB x.hp y.hp=b1 at*
 generalize eqB x.hn y.hn=b2 at*
 generalize x.quota=q1 at*
 generalize x.used=q2 at*
 generalize x.fin=q3 at*
 generalize (x.val:Int)=q4 at*
 generalize y.quota=r1 at*
 generalize y.used=r2 at*
 generalize y.fin=r3 at*
 generalize (y.val:Int)=r4 at*
 have HB0:Hid (Below w.heap.size w ((w.alloc (.cells #[.slice A0 n0 c0,.slice A1 n1 c1,.slice A2 n2 c2,.int .i64 q1,.int .i64 q2,.int .i64 q3,.int .u64 q4] 27)).alloc (.cells #[.slice B0 m0 d0,.slice B1 m1 d1,.slice B2 m2 d2,.int .i64 r1,.int .i64 r2,.int .i64 r3,.int .u64 r4] 27))):=((zS _ _).alloc (zQ _) _).alloc (by simp) _
 have HC:Hid (∀v,w.heap.size+1<v.heap.size→C7 w.heap.size (.slice A0 n0 c0) (.slice A1 n1 c1) (.slice A2 n2 c2) (.int .i64 q1) (.int .i64 q2) (.int .i64 q3) (.int .u64 q4) v→C7 (w.heap.size+1) (.slice B0 m0 d0) (.slice B1 m1 d1) (.slice B2 m2 d2) (.int .i64 r1) (.int .i64 r2) (.int .i64 r3) (.int .u64 r4) v→∀u,Below v.heap.size v u→C7 w.heap.size (.slice A0 n0 c0) (.slice A1 n1 c1) (.slice A2 n2 c2) (.int .i64 q1) (.int .i64 q2) (.int .i64 q3) (.int .u64 q4) u∧C7 (w.heap.size+1) (.slice B0 m0 d0) (.slice B1 m1 d1) (.slice B2 m2 d2) (.int .i64 r1) (.int .i64 r2) (.int .i64 r3) (.int .u64 r4) u∧w.heap.size+1<u.heap.size):=fun v hs h1 h2 u hu=>⟨h1.below hu (by omega),h2.below hu hs,by have:=hu.size;omega⟩
 have HC0:=zL (HC.out _ (by simp) (by simp[C7,go_sem]) (by simp[C7,go_sem]):∀u,Below ((w.alloc (.cells #[.slice A0 n0 c0,.slice A1 n1 c1,.slice A2 n2 c2,.int .i64 q1,.int .i64 q2,.int .i64 q3,.int .u64 q4] 27)).alloc (.cells #[.slice B0 m0 d0,.slice B1 m1 d1,.slice B2 m2 d2,.int .i64 r1,.int .i64 r2,.int .i64 r3,.int .u64 r4] 27)).heap.size ((w.alloc (.cells #[.slice A0 n0 c0,.slice A1 n1 c1,.slice A2 n2 c2,.int .i64 q1,.int .i64 q2,.int .i64 q3,.int .u64 q4] 27)).alloc (.cells #[.slice B0 m0 d0,.slice B1 m1 d1,.slice B2 m2 d2,.int .i64 r1,.int .i64 r2,.int .i64 r3,.int .u64 r4] 27)) u→_)
 by_cases g1:q1=r1
 rotate_left
 · skip
   have b2:(q1==r1)=false:=by simpa using g1
   have b3:decide (q1=r1)=false:=by simpa using g1
   clear g1
   go_enter Try.func8,Try.ntmps8
   exact qb
 subst g1
 by_cases g2:q2=r2
 rotate_left
 · skip
   have b2:(q2==r2)=false:=by simpa using g2
   have b3:decide (q2=r2)=false:=by simpa using g2
   clear g2
   go_enter Try.func8,Try.ntmps8
   exact qb
 subst g2
 by_cases g3:q3=r3
 rotate_left
 · skip
   have b2:(q3==r3)=false:=by simpa using g3
   have b3:decide (q3=r3)=false:=by simpa using g3
   clear g3
   go_enter Try.func8,Try.ntmps8
   exact qb
 subst g3
 by_cases g4:q4=r4
 rotate_left
 · skip
   have b2:(q4==r4)=false:=by simpa using g4
   have b3:decide (q4=r4)=false:=by simpa using g4
   clear g4
   go_enter Try.func8,Try.ntmps8
   exact qb
 subst g4
 rcases b0 with _|_
 case' true=>rcases b1 with _|_
 all_goals
  go_enter Try.func8,Try.ntmps8
  go_wp2_with (first
   |(go_at_call 20
     (with_reducible refine(T2.out _ ?_).mono ?_)
     · exact HB2.out
     rintro e w3 ⟨rfl,hb3⟩
     have HB3:=zL (HB2.out.trans (hb3.mono HB2.out.size))
     clear hb3)
   |(go_at_call 18
     (with_reducible refine(T1.out _ ?_).mono ?_)
     · exact HB1.out
     rintro e w2 ⟨rfl,hb2⟩
     obtain⟨⟨u0,u1,u2,u3,u4,u5,u6⟩,⟨v0,v1,v2,v3,v4,v5,v6⟩,-⟩:=HC.out w1 HS1.out HX1.out.1 HX1.out.2 w2 hb2
     have HB2:=zL (HB1.out.trans (hb2.mono HB1.out.size))
     clear hb2)
   |(go_at_call 16
     (with_reducible refine(T0.out _ ?_).mono ?_)
     · exact HB0.out
     rintro e w1 ⟨rfl,hb1⟩
     obtain⟨hx1,hy1,hs1⟩:=HC0.out w1 hb1
     have HX1:=zL (And.intro hx1 hy1)
     have HS1:=zL hs1
     obtain⟨y0,y1,y2,y3,y4,y5,y6⟩:=hx1
     obtain⟨z0,z1,z2,z3,z4,z5,z6⟩:=hy1
     have HB1:=zL (HB0.out.trans (hb1.mono HB0.out.size))
     clear hb1 hs1))
  go_ret
 all_goals first|exact⟨by simp,HB3.out⟩|exact⟨by simp,HB2.out⟩|exact⟨by simp,HB1.out⟩
theorem two_sl {α:Type} {L:Lay α} {S:Nat→Prop} {w:World} {g ty:Nat} {cs:Array Value} {c0 c1:List Value} {x y:α} (h:Blk w g ty cs) (hg:S g) (hc:cs.toList=c0++c1) (h0:L.R S w c0 x) (h1:L.R S w c1 y):(slL L).R S w [.slice (some ⟨g,0,none⟩) 2 2] [x,y]:=by
 have l0:=L.len h0
 have l1:=L.len h1
 have hcell:∀i u,(c0++c1)[i]? =some u→w.cell? ⟨g,i,none⟩=some u:=fun i u hu=>by
  rw[h.cell i,←hu,←hc]
  simp
 have e:∀i,(⟨g,0,none⟩:Addr).add i=⟨g,i,none⟩:=fun i=>by unfold Addr.add;split<;>simp_all
 refine⟨some ⟨g,0,none⟩,2,rfl,zQ _,by simp[maxLen],fun _=>⟨_,rfl,hg,fun j z hz=> ?_⟩⟩
 match j,hz with
 |0,hz=>
  simp at hz
  subst hz
  refine⟨c0,fun i u hu=> ?_,h0⟩
  rw[e,Nat.zero_mul,Nat.zero_add]
  have hi:=(zR.1 hu).1
  exact hcell i u (by rw[List.getElem?_append_left hi];exact hu)
 |1,hz=>
  simp at hz
  subst hz
  refine⟨c1,fun i u hu=> ?_,h1⟩
  rw[e,Nat.one_mul]
  exact hcell _ u (by rw[List.getElem?_append_right (by omega)];simpa[l0] using hu)
 |j+2,hz=>simp at hz
theorem qCw (F O H:Option Addr) (nf cf no co nh ch:Nat) (q1 q2 q3:Int) (q4:Nat) (s:Stt) (w:World) (h:stL.R (·<w.heap.size) w [.slice F nf cf,.slice O no co,.slice H nh ch,.int .i64 q1,.int .i64 q2,.int .i64 q3,.int .u64 (q4:Int)] s) (hz:s.low):
 Calls Try.prog 7 #[.agg #[.slice F nf cf,.slice O no co,.slice H nh ch,.int .i64 q1,.int .i64 q2,.int .i64 q3,.int .u64 (q4:Int)]] w fun e w'=>∃F' cf' O' co' H' ch',e= .returned (.agg #[.slice F' nf cf',.slice O' no co',.slice H' nh ch',.int .i64 q1,.int .i64 q2,.int .i64 q3,.int .u64 (q4:Int)])∧stL.R (New w.heap.size w') w' [.slice F' nf cf',.slice O' no co',.slice H' nh ch',.int .i64 q1,.int .i64 q2,.int .i64 q3,.int .u64 (q4:Int)] s∧Below w.heap.size w w':=by
 obtain⟨_,_,_,_,_,_,e1,-⟩:=zu h
 simp only[List.cons.injEq,Value.slice.injEq,Value.int.injEq,and_true,true_and] at e1
 obtain⟨⟨-,rfl,-⟩,⟨-,rfl,-⟩,⟨-,rfl,-⟩,rfl,rfl,rfl,e2⟩:=e1
 have e3:q4=s.val:=by omega
 subst e3
 refine(qAO _ s w h hz).mono ?_
 rintro e w' ⟨cs',rfl,hR,hb⟩
 obtain⟨F',cf',O',co',H',ch',rfl,-⟩:=zu hR
 exact⟨F',cf',O',co',H',ch',rfl,hR,hb⟩
def f14:Fn:=⟨[],(1,0),[(1,0)],[(0,0,0),(26,0,0)]⟩
def m14:Mod:=⟨[],[f14],[],[7],[]⟩
theorem qDH:mainB m14=true:=by decide
theorem low14:(beginS 1 100).low:=⟨by decide,by decide,by decide,fun f hf=>by simp[beginS] at hf;subst hf;exact⟨by decide,by decide⟩,fun o ho=>by simp[beginS] at ho⟩
theorem qC1 (w:World):Calls Try.prog 5 #[] w fun e w'=>e= .returned (.bool true)∧Below w.heap.size w w':=by
 go_enter Try.func5,Try.ntmps5
 go_upto_region 3 with(fail)
 refine zi fun W hW=> ?_
 have b0:Blk W (w.heap.size+1) 25 #[.int .u64 7]:=by rw[hW];repeat(first|(refine zl ?_;simp;done)|refine zc ?_)
 have b1:Blk W (w.heap.size+1+1) 41 #[.int .i64 1,.int .i64 0]:=by rw[hW];repeat(first|(refine zl ?_;simp;done)|refine zc ?_)
 have b2:Blk W (w.heap.size+1+1+1) 44 #[.int .i64 0,.int .i64 0,.int .i64 0,.int .i64 26,.int .i64 0,.int .i64 0]:=by rw[hW];repeat(first|(refine zl ?_;simp;done)|refine zc ?_)
 have b3:Blk W (w.heap.size+1+1+1+1) 47 #[.slice none 0 0,.int .i64 1,.int .i64 0,.slice (some ⟨w.heap.size+1+1,0,none⟩) 1 1,.slice (some ⟨w.heap.size+1+1+1,0,none⟩) 2 2]:=by rw[hW];repeat(first|(refine zl ?_;simp;done)|refine zc ?_)
 have b4:Blk W (w.heap.size+1+1+1+1+1) 53 #[.slice none 0 0,.slice (some ⟨w.heap.size+1+1+1+1,0,none⟩) 1 1,.slice none 0 0,.slice (some ⟨w.heap.size+1,0,none⟩) 1 1,.slice none 0 0]:=by rw[hW];repeat(first|(refine zl ?_;simp;done)|refine zc ?_)
 have i64:∀k:Int,0≤k→k≤1000→I64 k:=fun k h1 h2=>⟨by omega,by omega⟩
 have HL:Hid (modL.R (·<W.heap.size) W [.slice none 0 0,.slice (some ⟨w.heap.size+1+1+1+1,0,none⟩) 1 1,.slice none 0 0,.slice (some ⟨w.heap.size+1,0,none⟩) 1 1,.slice none 0 0] m14):=
  ⟨_,_,_,_,_,rfl,jx _ _ _,qA7 (L:=fnL) (x:=f14) b3 b3.lt ⟨_,_,_,rfl,i64 1 qY qY,i64 0 qY qY,jx _ _ _,qA7 (L:=typL) (x:=(1,0)) b1 b1.lt ⟨rfl,i64 _ qY qY,i64 _ qY qY⟩,two_sl (L:=insL) (x:=(0,0,0)) (y:=(26,0,0)) (c0:=[.int .i64 0,.int .i64 0,.int .i64 0]) (c1:=[.int .i64 26,.int .i64 0,.int .i64 0]) b2 b2.lt rfl ⟨rfl,i64 _ qY qY,i64 _ qY qY,i64 _ qY qY⟩ ⟨rfl,i64 _ qY qY,i64 _ qY qY,i64 _ qY qY⟩⟩,jx _ _ _,qA7 (L:=numL) (x:=7) b0 b0.lt ⟨rfl,by unfold B64;omega⟩,jx _ _ _⟩
 have HB0:Hid (Below w.heap.size w W):=by show Below _ _ _;rw[hW];exact(((((zS _ _).alloc (zQ _) _).alloc (by simp) _).alloc (by simp<;>omega) _).alloc (by simp<;>omega) _).alloc (by simp<;>omega) _ |>.alloc (by simp<;>omega) _
 have y0:=b4.cell 0
 have y1:=b4.cell 1
 have y2:=b4.cell 2
 have y3:=b4.cell 3
 have y4:=b4.cell 4
 clear hW b0 b1 b2 b3 b4
 have BG:=zL (qC0 _ m14 f14 [] 100 W HL.out rfl qY (i64 100 qY qY) qDH qY)
 simp only[vAgg] at BG
 go_upto_region 4 with(first
  |(go_at_call 10
    refine BG.out.mono ?_
    rintro e w1 ⟨cs',rfl,hR,hb⟩
    obtain⟨F,cf,O,co,H,ch,ecs,-,-,-,-,-,-,sF,-,-,-,-,-,-⟩:=zu hR
    have ecs':cs'=[.slice F 1 cf,.slice O 0 co,.slice H 0 ch,.int .i64 100,.int .i64 0,.int .i64 0,.int .u64 0]:=ecs
    subst ecs'
    have HR1:=zL hR
    have HF1:=zL sF
    have HB1:=zL hb
    clear hR sF hb ecs y0 y1 y2 y3 y4))
 refine zi fun V hV=> ?_
 obtain⟨G,hG⟩:∃G,w1.heap.size=G:=⟨_,rfl⟩
 have hBV:Below w1.heap.size w1 V:=by rw[hV];exact(zS _ _).alloc (zQ _) _
 have HKV:Hid (Blk V G 27 #[.slice F 1 cf,.slice O 0 co,.slice H 0 ch,.int .i64 100,.int .i64 0,.int .i64 0,.int .u64 0]):=by show Blk _ _ _ _;rw[hV];exact zl hG
 have HBV:=zL hBV
 rw[hG]
 have hGV:G<V.heap.size:=HKV.out.lt
 obtain⟨aF,csF,eF,haF,hcF,hRF⟩:=HF1.out.at (k:=0) (x:=⟨0,0,List.replicate 1 0,[]⟩) rfl
 subst eF
 obtain⟨P0,e0,P1,e1,rfl,-⟩:=jC hRF
 have z2:=hcF 2 _ rfl
 rw[show 0*frL.k+2=2 from rfl,show aF.add 2=⟨aF.block,aF.off+2,none⟩ by simp[Addr.add]] at z2
 have HZ2:Hid (w1.cell? ⟨aF.block,aF.off+2,none⟩=some (.slice P0 1 e0)):=z2
 clear hV hG z2 hcF hRF hBV
 have STV:Hid (∀v,Below V.heap.size V v→stL.R (·<v.heap.size) v [.slice (some aF) 1 cf,.slice O 0 co,.slice H 0 ch,.int .i64 100,.int .i64 0,.int .i64 0,.int .u64 0] (beginS 1 100)):=fun v hb=>by
  have hb2:=HBV.out.trans (hb.mono HBV.out.size)
  exact stL.wide (stL.keep HR1.out fun b h1=>hb2.block b h1) fun b h1=>zP h1 hb2.size
 have CN:Hid (∀v,Below V.heap.size V v→Calls Try.prog 7 #[.agg #[.slice (some aF) 1 cf,.slice O 0 co,.slice H 0 ch,.int .i64 100,.int .i64 0,.int .i64 0,.int .u64 0]] v fun e w'=>∃F' cf' O' co' H' ch',e= .returned (.agg #[.slice F' 1 cf',.slice O' 0 co',.slice H' 0 ch',.int .i64 100,.int .i64 0,.int .i64 0,.int .u64 0])∧stL.R (New v.heap.size w') w' [.slice F' 1 cf',.slice O' 0 co',.slice H' 0 ch',.int .i64 100,.int .i64 0,.int .i64 0,.int .u64 0] (beginS 1 100)∧Below v.heap.size v w'):=fun v hb=>qCw (some aF) O H 1 cf 0 co 0 ch 100 0 0 0 (beginS 1 100) v (STV.out v hb) low14
 have SM:Hid (∀v F' cf' O' co' H' ch',Below V.heap.size V v→stL.R (·<v.heap.size) v [.slice F' 1 cf',.slice O' 0 co',.slice H' 0 ch',.int .i64 100,.int .i64 0,.int .i64 0,.int .u64 0] (beginS 1 100)→Calls Try.prog 8 #[.agg #[.slice (some aF) 1 cf,.slice O 0 co,.slice H 0 ch,.int .i64 100,.int .i64 0,.int .i64 0,.int .u64 0],.agg #[.slice F' 1 cf',.slice O' 0 co',.slice H' 0 ch',.int .i64 100,.int .i64 0,.int .i64 0,.int .u64 0]] v (Tells true v)):=fun v F' cf' O' co' H' ch' hb h=>by
  have:=ju _ _ _ _ v (STV.out v hb) h
  rwa [z9] at this
 have HS4:Hid (∀v,Below V.heap.size V v→v.cell? ⟨G,0,none⟩=some (.slice (some aF) 1 cf)∧v.cell? ⟨G,1,none⟩=some (.slice O 0 co)∧v.cell? ⟨G,2,none⟩=some (.slice H 0 ch)∧v.cell? ⟨G,3,none⟩=some (.int .i64 100)∧v.cell? ⟨G,4,none⟩=some (.int .i64 0)∧v.cell? ⟨G,5,none⟩=some (.int .i64 0)∧v.cell? ⟨G,6,none⟩=some (.int .u64 0)∧v.cell? ⟨aF.block,aF.off+2,none⟩=some (.slice P0 1 e0)):=fun v hb=>⟨(zb HKV.out hb hGV).cell 0,(zb HKV.out hb hGV).cell 1,(zb HKV.out hb hGV).cell 2,(zb HKV.out hb hGV).cell 3,(zb HKV.out hb hGV).cell 4,(zb HKV.out hb hGV).cell 5,(zb HKV.out hb hGV).cell 6,qA3 HZ2.out (HBV.out.trans (hb.mono HBV.out.size))⟩
 go_region_held3 (fun v=>v.cell? ⟨G,0,none⟩=some (.slice (some aF) 1 cf)∧v.cell? ⟨G,1,none⟩=some (.slice O 0 co)∧v.cell? ⟨G,2,none⟩=some (.slice H 0 ch)∧v.cell? ⟨G,3,none⟩=some (.int .i64 100)∧v.cell? ⟨G,4,none⟩=some (.int .i64 0)∧v.cell? ⟨G,5,none⟩=some (.int .i64 0)∧v.cell? ⟨G,6,none⟩=some (.int .u64 0)∧v.cell? ⟨aF.block,aF.off+2,none⟩=some (.slice P0 1 e0))
  (first|exact HS4.out _ (zS _ V).drew|(have hz:=HB6.out;clear hz;first|exact HS4.out _ HB7.out|exact HS4.out _ HB6.out))
  (first
  |(go_at_call 7
    (with_reducible refine(CN.out _ ?_).mono ?_)
    · exact(zS _ V).drew
    rintro e w6 ⟨F',cf',O',co',H',ch',rfl,hR6,hb6⟩
    have HB6:Hid (Below V.heap.size V w6):=(zS _ V).drew.trans hb6
    have E6:=zL (SM.out w6 _ _ _ _ _ _ HB6.out (stL.wide hR6 fun b hb=>hb.2.1))
    clear hR6 hb6)
  |(go_at_call 8
    (with_reducible refine E6.out.mono ?_)
    rintro e w7 ⟨rfl,hb7⟩
    have HB7:Hid (Below V.heap.size V w7):=HB6.out.trans (hb7.mono HB6.out.size)
    clear hb7))
 go_wp2_with fail
 go_ret
 exact⟨rfl,HB0.out.trans ((HB1.out.trans (HBV.out.trans (HB7.out.mono HBV.out.size) |>.mono HB1.out.size)).mono HB0.out.size)⟩
end Go.Proofs.Ytconajaecpgjgaa
