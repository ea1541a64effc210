/-
Sme Gm0 Rwd Rob Rha Rst
-/
import Derived.Test.YtgdbhanhmenmfaaGreatQ01
import Derived.Test.YtgdbhanhmenmfaaGreatQ02
import Derived.Test.YtgdbhanhmenmfaaGreatQ03
import Derived.Deep.QuietTactic
import Derived.BigQuiet
import Derived.Laws.Strings
import Derived.Deep.RegionHeld3
import Derived.Deep.DeepCutAuto
set_option linter.unusedSimpArgs false
set_option linter.unusedVariables false
set_option maxRecDepth 100000
set_option maxHeartbeats 4000000
namespace Go.Proofs.YtgdbhanhmenmfaaGreat
open Go.RowKit
variable {A:Option Addr}{w:World}{α:Type}
theorem qC {P:Prop} (h:P:=by
 obtain⟨⟨v0,v1,v2,v3⟩,w0,w1,w2,w3⟩:=HCX.out X (qBO _ _)
 by_cases g1:f1=p1
 rotate_left
 · have t0:(f1 != p1)=true:=by simpa using g1
   have HG:=qBK (HNO.out (by simp[g1]));clear g1
   go_wp2_with fail
   go_ret;exact⟨by rw[HG.out];rfl,HBB.out _ HBX.out⟩
 subst g1
 by_cases g2:f2=p2
 rotate_left
 · have t0:(f2 != p2)=true:=by simpa using g2
   have HG:=qBK (HNO.out (by simp[g2]));clear g2
   go_wp2_with fail
   go_ret;exact⟨by rw[HG.out];rfl,HBB.out _ HBX.out⟩
 subst g2
 cases bl
 · have HG:=qBK (HNO.out (by simp))
   go_wp2_with (first
    |(go_at_call 35
      (with_reducible refine(HWA.out _ ?_).mono ?_)
      · exact HBB.out _ HBX.out
      rintro e z1 ⟨rfl,hz1⟩;obtain⟨⟨v0,v1,v2,v3⟩,w0,w1,w2,w3⟩:=HCX.out z1 hz1;have HZ1:=qBK (HBX.out.trans (hz1.mono HBX.out.size));clear hz1)
    |(go_at_call 35
      (with_reducible refine(HWB.out _ ?_).mono ?_)
      · exact HBB.out _ HZ1.out
      rintro e z2 ⟨rfl,hz2⟩;have HZ2:=qBK (HZ1.out.trans (hz2.mono HZ1.out.size));clear hz2))
   go_ret;exact⟨by rw[HG.out];rfl,HBB.out _ HZ1.out⟩
 cases bs
 · have HG:=qBK (HNO.out (by simp))
   go_wp2_with (first
    |(go_at_call 35
      (with_reducible refine(HWA.out _ ?_).mono ?_)
      · exact HBB.out _ HBX.out
      rintro e z1 ⟨rfl,hz1⟩;obtain⟨⟨v0,v1,v2,v3⟩,w0,w1,w2,w3⟩:=HCX.out z1 hz1;have HZ1:=qBK (HBX.out.trans (hz1.mono HBX.out.size));clear hz1)
    |(go_at_call 35
      (with_reducible refine(HWB.out _ ?_).mono ?_)
      · exact HBB.out _ HZ1.out
      rintro e z2 ⟨rfl,hz2⟩;have HZ2:=qBK (HZ1.out.trans (hz2.mono HZ1.out.size));clear hz2))
   go_ret;exact⟨by rw[HG.out];rfl,HBB.out _ HZ2.out⟩
 have HY:=qBK (HYES.out (by simp))
 go_wp2_with (first
  |(go_at_call 35
    (with_reducible refine(HWA.out _ ?_).mono ?_)
    · exact HBB.out _ HBX.out
    rintro e z1 ⟨rfl,hz1⟩;obtain⟨⟨v0,v1,v2,v3⟩,w0,w1,w2,w3⟩:=HCX.out z1 hz1;have HZ1:=qBK (HBX.out.trans (hz1.mono HBX.out.size));clear hz1)
  |(go_at_call 35
    (with_reducible refine(HWB.out _ ?_).mono ?_)
    · exact HBB.out _ HZ1.out
    rintro e z2 ⟨rfl,hz2⟩;have HZ2:=qBK (HZ1.out.trans (hz2.mono HZ1.out.size));clear hz2))
 exact⟨⟨k+1,by omega,by simp,HY.out,HZ2.out⟩,by simp[intOf];omega⟩):P:=h
theorem qY {P:Prop} (h:P:=by
 go_wp2_with fail
 go_quiet (first|(go_at_call 35;exact HW.out _)|(go_at_call 73;exact HY.out _))
 go_wp2_with fail
 go_ret;exact⟨by rw[decide_eq_false (qHc HO.out HP.out (HN.out))];rfl,_,World.drewN_drewN _ _ _⟩):P:=h
theorem qx {P:Prop} (h:P:=by
 go_enter Tryz.func15,Tryz.ntmps15
 go_wp2_with fail
 go_ret;exact⟨by rw[HE.out];simp[b3],HB0.out⟩):P:=h
theorem zC {P:Prop} (h:P:=by
 go_wp2_with fail
 go_quiet (fail)
 go_wp2_with fail
 go_ret;exact⟨by rw[decide_eq_false hout.out];rfl,_,World.drewN_drewN _ _ _⟩):P:=h
theorem zh {P:Prop} (h:P:=by
 obtain rfl:k=n:=by omega
 go_wp2_with fail
 go_ret;refine⟨?_,_,rfl⟩;have e:=HE.out;rw[qBS qa,qBS (by rw[HM.out];exact qBL _)] at e;rw[decide_eq_true e]
 rfl):P:=h
def sameB (xs ys:List Nat):Bool:=decide (xs=ys)
theorem qMx (A B:Option Addr) (c d:Nat) (xs ys:List Nat) (w:World) (S T:Nat→Prop) (hA:Byt S w A xs) (hB:Byt T w B ys) (hx:xs.length≤140737488355328) (hy:ys.length≤140737488355328):
 Calls Tryz.prog 73 #[.slice A xs.length c,.slice B ys.length d] w fun e w'=>e= .returned (.bool (sameB xs ys))∧∃n,w'=w.drewN n:=by
 have HA:=qBK hA;have HB:=qBK hB;clear hA hB
 by_cases hl:xs.length=ys.length
 · have HL:=qBK hl
   have h1:((xs.length:Int) != (ys.length:Int))=false:=by simp;omega
   have h2:((xs.length) != (ys.length))=false:=by simp;omega
   clear hl
   go_enter Tryz.func73,Tryz.ntmps73
   go_wp2_with fail
   go_loopw [5] (fun i wr=>∃k n:Nat,k≤xs.length∧i= .int .i64 (k:Nat)∧(∀j,j<k→xs[j]?.getD 0=ys[j]?.getD 0)∧wr=w.drewN n) (fun i _=>xs.length-(intOf i).toNat)
   case atStart=>exact⟨0,0,qBU _,rfl,fun j hj=>absurd hj (by omega),rfl⟩
   case round=>
    obtain⟨k,n,hk,rfl,heq,rfl⟩:=hrel;have HE:=qBK heq;clear heq
    by_cases hlt:k<xs.length
    · have hlt2:k<ys.length:=by have:=HL.out;omega
      obtain⟨a,rfl,_,ha⟩:=HA.out.at (k:=k) hlt;obtain⟨b,rfl,_,hb⟩:=HB.out.at (k:=k) hlt2;obtain⟨x,hx⟩:∃x,xs[k]?.getD 0=x:=⟨_,rfl⟩;obtain⟨y,hy⟩:∃y,ys[k]?.getD 0=y:=⟨_,rfl⟩;rw[hx] at ha;rw[hy] at hb;have HX:=qBK hx;have HY:=qBK hy;have k0:0≤(k:Int):=by omega
      have k1:(k:Int)<(xs.length:Int):=by omega
      have k2:(k:Int)<(ys.length:Int):=by omega
      clear hx hy
      by_cases hxy:x=y
      · have t1:((x:Int) != (y:Int))=false:=by simp;omega
        have hXY:=qBK hxy;clear hxy
        go_wp2
        go_quiet (fail)
        go_wp2
        refine⟨⟨k+1,_,by omega,by simp,fun j hj=> ?_,rfl⟩,by simp[intOf];omega⟩;rcases Nat.lt_or_ge j k with h|h
        · exact HE.out j h
        · obtain rfl:j=k:=by omega
          rw[HX.out,HY.out];exact hXY.out
      · have t1:((x:Int) != (y:Int))=true:=by simp;omega
        have hXY:=qBK hxy;clear hxy
        go_wp2
        go_quiet (fail)
        go_wp2
        go_ret;have h3:sameB xs ys=false:=by
         simp only[sameB,decide_eq_false_iff_not];rintro rfl;exact hXY.out (HX.out.symm.trans HY.out)
        exact⟨by rw[h3];rfl,_,World.drewN_drewN _ _ _⟩
    · go_wp2
      go_ret;have h3:sameB xs ys=true:=by
       simp only[sameB,decide_eq_true_eq];refine List.ext_getElem HL.out fun j h1 h2=> ?_;have:=HE.out j (by omega);simpa[h1,h2] using this
      exact⟨by rw[h3];rfl,_,rfl⟩
 · have h1:((xs.length:Int) != (ys.length:Int))=true:=by simp;omega
   have h2:((xs.length) != (ys.length))=true:=by simp;omega
   have h3:sameB xs ys=false:=by
    simp only[sameB,decide_eq_false_iff_not];rintro rfl;exact hl rfl
   have HL:=qBK hl;clear hl
   go_enter Tryz.func73,Tryz.ntmps73
   go_wp2
   go_ret;exact⟨by rw[h3];rfl,0,rfl⟩
theorem qDD {La:Lay α} {v:World} {xs:List α} (h:Sq La (·<w.heap.size) w A xs) (hb:Below w.heap.size w v):Sq La (·<v.heap.size) v A xs:=(h.keep fun b h1=>hb.block b h1).wide fun b h1=>qBN h1 hb.size
theorem qI6 [DecidableEq α] (a b:α):eqB a b=decide (a=b):=by rw[Bool.eq_iff_iff,qDb,decide_eq_true_eq]
theorem qHg (x y:Frm):eqB x y=(decide (x.fn=y.fn) && decide (x.pc=y.pc) && eqB x.locs y.locs && eqB x.stk y.stk):=by
 rw[Bool.eq_iff_iff];simp only[Bool.and_eq_true,decide_eq_true_eq,qDb];exact⟨fun h=>by subst h;simp,fun h=>Frm.eq_of h.1.1.1 h.1.1.2 h.1.2 h.2⟩
theorem eqB_stt (x y:Stt):eqB x y=(decide (x.quota=y.quota) && decide (x.used=y.used) && decide (x.fin=y.fin) && decide (x.val=y.val) && eqB x.fr y.fr && eqB x.hp y.hp && eqB x.hn y.hn):=by
 rw[Bool.eq_iff_iff];simp only[Bool.and_eq_true,decide_eq_true_eq,qDb];exact⟨fun h=>by subst h;simp,fun h=>Stt.eq_of h.1.1.2 h.1.2 h.2 h.1.1.1.1.1.1 h.1.1.1.1.1.2 h.1.1.1.1.2 h.1.1.1.2⟩
theorem qII {P:Program} {f:FuncId} {args:Array Value} {q r:Nat} {v:Value}
 (h:Calls P f args (w.drewN (q+r)) fun e w'=>e= .returned v∧∃m,w'=(w.drewN (q+r)).drewN m):Calls P f args (w.drewN (q+r)) fun e w''=>e= .returned v∧∃m,w''=w.drewN (q+m):=
 h.mono fun _ _ ⟨he,m,hm⟩=>⟨he,r+m,by rw[hm,World.drewN_drewN,Nat.add_assoc]⟩
theorem qKm {La:Lay α} {S:Nat→Prop} {xs:List α} (h:Sq La S w A xs) (q:Nat):Sq La S (w.drewN q) A xs:=h.keep fun _ _=>rfl
theorem qEM (A B:Option Addr) (n m c d:Nat) (xs ys:List Nat) (w:World) (S T:Nat→Prop) (hl:xs.length=n) (hm:ys.length=m) (h:Sq numL S w A xs) (h':Sq numL T w B ys) (hn2:n≤9223372036854775807) (hm2:m≤9223372036854775807):
 Calls Tryz.prog 35 #[.slice A n c,.slice B m d] w fun e w'=>e= .returned (.bool (eqB xs ys))∧∃q,w'=w.drewN q:=by
 refine qA9 ?_;intro HL HM HS HT;clear hl hm h h'
 by_cases hnm:n=m
 · subst hnm
   go_enter Tryz.func35,Tryz.ntmps35
   go_wp2_with fail
   go_loopw [5] (fun i wr=>∃k q:Nat,k≤n∧i= .int .i64 (k:Nat)∧xs.take k=ys.take k∧wr=w.drewN q) (fun i _=>n-(intOf i).toNat)
   case atStart=>exact⟨0,0,qBU _,rfl,by simp,rfl⟩
   case round=>
    obtain⟨k,q,hk,rfl,heq,rfl⟩:=hrel;have HE:=qBK heq;clear heq
    by_cases hlt:k<n
    · skip
      refine jG ?_;intro x hx;refine qAV ?_;intro y hy;obtain⟨a,cs,rfl,hab,hc,hr⟩:=HS.out.at hx;obtain⟨b,cs2,rfl,hbb,hc2,hr2⟩:=HT.out.at hy;have HX:=qBK hx;have HY:=qBK hy;clear hx hy;obtain⟨rfl,-⟩:=hr;obtain⟨rfl,-⟩:=hr2;have c0:=qB9 (K:=numL.k) rfl (hc 0 _ rfl);have e0:=qB9 (K:=numL.k) rfl (hc2 0 _ rfl);clear hc hc2;have k0:0≤(k:Int):=by omega
      have k1:(k:Int)<(n:Int):=by omega
      by_cases hxy:x=y
      · have HXY:=qBK hxy
        have t1:((x:Int)==(y:Int))=true:=by simp;omega
        have t2:((x:Int) != (y:Int))=false:=by simp;omega
        have t3:(x==y)=true:=by simp;omega
        have t4:(x != y)=false:=by simp;omega
        clear  hxy
        go_wp2_with fail
        go_quiet (fail)
        go_wp2_with fail
        refine⟨⟨k+1,_,by omega,by simp,qD2 HE.out HX.out HY.out HXY.out,rfl⟩,by simp[intOf];omega⟩
      · have HXY:=qBK hxy
        have t1:((x:Int)==(y:Int))=false:=by simp;omega
        have t2:((x:Int) != (y:Int))=true:=by simp;omega
        have t3:(x==y)=false:=by simp;omega
        have t4:(x != y)=true:=by simp;omega
        go_wp2_with fail
        go_quiet (fail)
        go_wp2_with fail
        go_ret;exact⟨by rw[qHf (qHc HX.out HY.out HXY.out)];rfl,_,World.drewN_drewN _ _ _⟩
    · obtain rfl:k=n:=by omega
      go_wp2_with fail
      go_ret;refine⟨?_,_,rfl⟩;have e:=HE.out;rw[qBS qa,qBS (by rw[HM.out];exact qBL _)] at e;rw[e,qEe]
      rfl
 · refine j9 ?_;intro h1 h2 HNM
   clear hnm
   go_enter Tryz.func35,Tryz.ntmps35
   go_wp2_with fail
   go_ret;refine⟨?_,0,rfl⟩;rw[qHf (fun e=>HNM.out zz)]
   rfl
theorem qJC {S:Nat→Prop} {xs:List Nat} (h:Byt S w A xs) (q:Nat):Byt S (w.drewN q) A xs:=h.keep fun _ _=>rfl
theorem qLT (A B:Option Addr) (n m c d:Nat) (O O':List Ob) (w:World) (S T:Nat→Prop) (hl:O.length=n) (hm:O'.length=m) (hA:Sq obL S w A O) (hB:Sq obL T w B O') (hz:∀o∈O,o.small) (hz':∀o∈O',o.small) (hn:n≤1000000) (hn':m≤1000000):
 Calls Tryz.prog 36 #[.slice A n c,.slice B m d] w fun e w'=>e= .returned (.bool (decide (O=O')))∧∃q,w'=w.drewN q:=by
 have HL:=qBK hl;have HM:=qBK hm;have HA:=qBK hA;have HB:=qBK hB;have HZ:=qBK hz;have HZ':=qBK hz';clear hA hB hl hm hz hz'
 by_cases hnm:n=m
 rotate_left
 · refine j9 ?_;intro h1 h2 HNM
   clear hnm
   go_enter Tryz.func36,Tryz.ntmps36
   go_wp2_with fail
   go_ret;refine⟨?_,0,rfl⟩;rw[decide_eq_false (fun e=>HNM.out zz)]
   rfl
 subst hnm
 go_enter Tryz.func36,Tryz.ntmps36
 go_wp2_with fail
 go_loopw [5] (fun i wr=>∃k q:Nat,k≤n∧i= .int .i64 (k:Nat)∧O.take k=O'.take k∧wr=w.drewN q) (fun i _=>n-(intOf i).toNat)
 case atStart=>exact⟨0,0,qBU _,rfl,by simp,rfl⟩
 case round=>
  obtain⟨k,q,hk,rfl,heq,rfl⟩:=hrel;have HE:=qBK heq;clear heq
  by_cases hlt:k<n
  · obtain⟨o,ho⟩:∃o,O[k]? =some o:=⟨O[k]'qU,List.getElem?_eq_getElem _⟩
    obtain⟨p,hp⟩:∃o,O'[k]? =some o:=⟨O'[k]'(by rw[HM.out];exact hlt),List.getElem?_eq_getElem _⟩;have hsm:=HZ.out o (qBQ ho);have hsm':=HZ'.out p (qBQ hp);obtain⟨a,csa,ea,hab,hca,hRa⟩:=HA.out.at ho;obtain⟨b,csb,eb,hbb,hcb,hRb⟩:=HB.out.at hp;have HO:=qBK ho;have HP:=qBK hp;clear ho hp;subst ea eb;obtain⟨A0,c0,B0,d0,rfl,-,-,-,-,sA,yA,-,-,-⟩:=qC7 hRa;obtain⟨A1,c1,B1,d1,rfl,-,-,-,-,sB,yB,-,-,-⟩:=qC7 hRb;have ca0:w.cell? (a.add (k*4))=_:=hca 0 _ rfl;have ca1:w.cell? (a.add (k*4+1))=_:=hca 1 _ rfl;rw[qBT a (k*4) 1 (by omega)] at ca1;have ca2:w.cell? (a.add (k*4+2))=_:=hca 2 _ rfl;rw[qBT a (k*4) 2 (by omega)] at ca2;have ca3:w.cell? (a.add (k*4+3))=_:=hca 3 _ rfl;rw[qBT a (k*4) 3 (by omega)] at ca3;have cb0:w.cell? (b.add (k*4))=_:=hcb 0 _ rfl;have cb1:w.cell? (b.add (k*4+1))=_:=hcb 1 _ rfl;rw[qBT b (k*4) 1 (by omega)] at cb1;have cb2:w.cell? (b.add (k*4+2))=_:=hcb 2 _ rfl;rw[qBT b (k*4) 2 (by omega)] at cb2;have cb3:w.cell? (b.add (k*4+3))=_:=hcb 3 _ rfl;rw[qBT b (k*4) 3 (by omega)] at cb3;have k0:0≤(k:Int):=by omega
    have k1:(k:Int)<(n:Int):=by omega
    have HSA:=qBK sA;have HSB:=qBK sB;have HYA:=qBK yA;have HYB:=qBK yB;have HW:Hid (∀r,Calls Tryz.prog 35 #[.slice A0 o.words.length c0,.slice A1 p.words.length c1] (w.drewN (q+r)) fun e w''=>e= .returned (.bool (eqB o.words p.words))∧∃m,w''=w.drewN (q+m)):=fun r=>
     qII (qEM A0 A1 _ _ c0 c1 o.words p.words _ _ _ rfl rfl (qKm HSA.out _) (qKm HSB.out _) (by have:=hsm.1;omega) (by have:=hsm'.1;omega))
    have HY:Hid (∀r,Calls Tryz.prog 73 #[.slice B0 o.bytes.length d0,.slice B1 p.bytes.length d1] (w.drewN (q+r)) fun e w''=>e= .returned (.bool (sameB o.bytes p.bytes))∧∃m,w''=w.drewN (q+m)):=fun r=>
     qII (qMx B0 B1 d0 d1 o.bytes p.bytes _ _ _ (qJC HYA.out _) (qJC HYB.out _) (by have:=hsm.2;omega) (by have:=hsm'.2;omega))
    clear hca hcb hRa hRb sA yA sB yB hsm hsm';have HEQ:Hid (o.kind=p.kind→o.n=p.n→eqB o.words p.words=true→sameB o.bytes p.bytes=true→o=p):=fun h0 h1 h2 h3=>Ob.eq_of h0 h1 (qDb.1 h2) (by simpa[sameB] using h3);have HN0:Hid (o.kind≠p.kind→o≠p):=fun h e=>h (by rw[e]);have HN1:Hid (o.n≠p.n→o≠p):=fun h e=>h (by rw[e]);have HN2:Hid (eqB o.words p.words=false→o≠p):=fun h e=>(by rw[e,qEe] at h;cases h);have HN3:Hid (sameB o.bytes p.bytes=false→o≠p):=fun h e=>(by rw[e] at h;simp[sameB] at h);generalize eqB o.words p.words=bw at*;generalize sameB o.bytes p.bytes=bb at*;generalize o.kind=kk at*;generalize o.n=nn at*;generalize o.words.length=pp at*;generalize o.bytes.length=qq at*;generalize p.kind=kk' at*;generalize p.n=nn' at*;generalize p.words.length=pp' at*;generalize p.bytes.length=qq' at*
    by_cases g0:kk=kk'
    rotate_left
    · have HN:=qBK (HN0.out g0)
      have t0:(kk != kk')=true:=by simpa using g0
      clear g0;exact qY
    subst g0;have tg0:(kk != kk)=false:=by simp
    by_cases g1:nn=nn'
    rotate_left
    · have HN:=qBK (HN1.out g1)
      have t0:(nn != nn')=true:=by simpa using g1
      clear g1;exact qY
    subst g1;have tg1:(nn != nn)=false:=by simp
    cases bw
    · have HN:=qBK (HN2.out rfl)
      exact qY
    cases bb
    · have HN:=qBK (HN3.out rfl)
      exact qY
    · have HN:=qBK (HEQ.out rfl rfl rfl rfl)
      go_wp2_with fail
      go_quiet (first|(go_at_call 35;exact HW.out _)|(go_at_call 73;exact HY.out _))
      go_wp2_with fail
      exact⟨⟨k+1,_,by omega,by simp,qD2 HE.out HO.out HP.out HN.out,rfl⟩,by simp[intOf];omega⟩
  · exact zh
theorem qLU (A B:Option Addr) (n m c d:Nat) (xs ys:List Hnd) (w:World) (S T:Nat→Prop) (hl:xs.length=n) (hm:ys.length=m) (h:Sq hdL S w A xs) (h':Sq hdL T w B ys) (hn2:n≤9223372036854775807) (hm2:m≤9223372036854775807):
 Calls Tryz.prog 37 #[.slice A n c,.slice B m d] w fun e w'=>e= .returned (.bool (decide (xs=ys)))∧∃q,w'=w.drewN q:=by
 refine qA9 ?_;intro HL HM HS HT;clear hl hm h h'
 by_cases hnm:n=m
 · subst hnm
   go_enter Tryz.func37,Tryz.ntmps37
   go_wp2_with fail
   go_loopw [5] (fun i wr=>∃k q:Nat,k≤n∧i= .int .i64 (k:Nat)∧xs.take k=ys.take k∧wr=w.drewN q) (fun i _=>n-(intOf i).toNat)
   case atStart=>exact⟨0,0,qBU _,rfl,by simp,rfl⟩
   case round=>
    obtain⟨k,q,hk,rfl,heq,rfl⟩:=hrel;have HE:=qBK heq;clear heq
    by_cases hlt:k<n
    · refine jG ?_;intro x hx
      refine qAV ?_;intro y hy;obtain⟨a,cs,rfl,hab,hc,hr⟩:=HS.out.at hx;obtain⟨b,cs2,rfl,hbb,hc2,hr2⟩:=HT.out.at hy;have HX:=qBK hx;have HY:=qBK hy;clear hx hy;obtain⟨rfl,-,-⟩:=hr;obtain⟨rfl,-,-⟩:=hr2;have c0:=hc 0 _ rfl;rw[show k*hdL.k+0=k*3 from rfl] at c0;have c1:=hc 1 _ rfl;rw[show k*hdL.k+1=k*3+1 from rfl,qBT a (k*3) 1 (by omega)] at c1;have c2:=hc 2 _ rfl;rw[show k*hdL.k+2=k*3+2 from rfl,qBT a (k*3) 2 (by omega)] at c2;have e0:=hc2 0 _ rfl;rw[show k*hdL.k+0=k*3 from rfl] at e0;have e1:=hc2 1 _ rfl;rw[show k*hdL.k+1=k*3+1 from rfl,qBT b (k*3) 1 (by omega)] at e1;have e2:=hc2 2 _ rfl;rw[show k*hdL.k+2=k*3+2 from rfl,qBT b (k*3) 2 (by omega)] at e2;clear hc hc2;have k0:0≤(k:Int):=by omega
      have k1:(k:Int)<(n:Int):=by omega
      by_cases hxy:x=y
      · subst hxy
        go_wp2_with fail
        go_quiet (fail)
        go_wp2_with fail
        refine⟨⟨k+1,_,by omega,by simp,qD2 HE.out HX.out HY.out rfl,rfl⟩,by simp[intOf];omega⟩
      · have HXY:=qBK hxy
        have hout:Hid (xs≠ys):=qHc HX.out HY.out hxy;clear hxy;obtain⟨x0,x1,x2⟩:=x;obtain⟨y0,y1,y2⟩:=y;have HNE:Hid (¬(x0=y0∧x1=y1∧x2=y2)):=fun⟨h0,h1,h2⟩=>HXY.out (by rw[h0,h1,h2]);clear HXY HX HY;simp only[hdC] at*
        by_cases g0:x0=y0
        · by_cases g1:x1=y1
          · have g2:¬x2=y2:=fun h=>HNE.out ⟨g0,g1,h⟩
            have b0:(x0==y0)=true:=by simpa using g0
            have b1:((x1:Int)==(y1:Int))=true:=by simp;omega
            have b2:(x2==y2)=false:=by simpa using g2
            clear g0 g1 g2;exact zC
          · have b0:(x0==y0)=true:=by simpa using g0
            have b1:((x1:Int)==(y1:Int))=false:=by simp;omega
            clear g0 g1;exact zC
        · have b0:(x0==y0)=false:=by simpa using g0
          clear g0;exact zC
    · exact zh
 · refine j9 ?_;intro h1 h2 HNM
   clear hnm
   go_enter Tryz.func37,Tryz.ntmps37
   go_wp2_with fail
   go_ret;refine⟨?_,0,rfl⟩;rw[decide_eq_false (fun e=>HNM.out zz)]
   rfl
theorem rstates_any (cs cs2:List Value) (x y:Stt) (w:World) (h:stL.R (·<w.heap.size) w cs x) (h':stL.R (·<w.heap.size) w cs2 y) (hx:x.low) (hy:y.low):Calls Tryz.prog 15 #[vAgg cs,vAgg cs2] w (Tells (eqB x y) w):=by
 obtain⟨A0,c0,A1,c1,A2,c2,rfl,k0a,k0,k1a,k1,k2a,k2,s0,s1,s2,-,-,-,-⟩:=qCV h;obtain⟨B0,d0,B1,d1,B2,d2,rfl,l0a,l0,l1a,l1,l2a,l2,t0,t1,t2,-,-,-,-⟩:=qCV h';obtain⟨z1,z2,z3,z4,z5⟩:=hx;obtain⟨y1,y2,y3,y4,y5⟩:=hy;have T1:Hid (∀w1,Below w.heap.size w w1→Calls Tryz.prog 36 #[.slice A1 x.hp.length c1,.slice B1 y.hp.length d1] w1 (Tells (eqB x.hp y.hp) w1)):=fun w1 hb=>(qLT A1 B1 _ _ c1 d1 x.hp y.hp w1 _ _ rfl rfl (qDD s1 hb) (qDD t1 hb) z5 y5 (by omega) (by omega)).mono fun e w2 h=>⟨by rw[h.1,qI6],by obtain⟨q,rfl⟩:=h.2;exact qBj _ _⟩;have T2:Hid (∀w1,Below w.heap.size w w1→Calls Tryz.prog 37 #[.slice A2 x.hn.length c2,.slice B2 y.hn.length d2] w1 (Tells (eqB x.hn y.hn) w1)):=fun w1 hb=>(qLU A2 B2 _ _ c2 d2 x.hn y.hn w1 _ _ rfl rfl (qDD s2 hb) (qDD t2 hb) (by omega) (by omega)).mono fun e w2 h=>⟨by rw[h.1,qI6],by obtain⟨q,rfl⟩:=h.2;exact qBj _ _⟩;have HS0:Hid (Sq frL (·<w.heap.size) w A0 x.fr):=s0;have HT0:Hid (Sq frL (·<w.heap.size) w B0 y.fr):=t0;have HZ4:=qBK z4;have HY4:=qBK y4
 show Calls Tryz.prog 15 #[.agg #[.slice A0 x.fr.length c0,.slice A1 x.hp.length c1,.slice A2 x.hn.length c2,.int .i64 x.quota,.int .i64 x.used,.int .i64 x.fin,.int .u64 (x.val:Int)],.agg #[.slice B0 y.fr.length d0,.slice B1 y.hp.length d1,.slice B2 y.hn.length d2,.int .i64 y.quota,.int .i64 y.used,.int .i64 y.fin,.int .u64 (y.val:Int)]] w (Tells (eqB x y) w)
 have HE:Hid (eqB x y=(decide (x.quota=y.quota) && decide (x.used=y.used) && decide (x.fin=y.fin) && decide ((x.val:Int)=(y.val:Int)) && eqB x.fr y.fr && eqB x.hp y.hp && eqB x.hn y.hn)):=by
  show _=_
  rw[eqB_stt,show decide (x.val=y.val)=decide ((x.val:Int)=(y.val:Int)) by rw[Bool.eq_iff_iff];simp;omega]
 have HLX:Hid (x.fr.length=x.fr.length):=rfl;obtain⟨n0,hn0⟩:∃z,x.fr.length=z:=⟨_,rfl⟩;obtain⟨m0,hm0⟩:∃z,y.fr.length=z:=⟨_,rfl⟩;have HN0:=qBK hn0;have HM0:=qBK hm0;rw[hn0,hm0];rw[hn0] at z1;clear k0a k0 k1a k1 k2a k2 s0 s1 s2 l0a l0 l1a l1 l2a l2 t0 t1 t2 h h' z2 z3 z4 z5 y1 y2 y3 y4 y5 hn0 hm0 HLX;generalize eqB x y=g at*;generalize x.hp.length=n1 at*;generalize y.hp.length=m1 at*;generalize x.hn.length=n2 at*;generalize y.hn.length=m2 at*;generalize eqB x.hp y.hp=b1 at*;generalize eqB x.hn y.hn=b2 at*;generalize x.quota=q1 at*;generalize x.used=q2 at*;generalize x.fin=q3 at*;generalize (x.val:Int)=q4 at*;generalize y.quota=r1 at*;generalize y.used=r2 at*;generalize y.fin=r3 at*;generalize (y.val:Int)=r4 at*;generalize x.fr=fx at*;generalize y.fr=fy at*;have HB0:Hid (Below w.heap.size w ((w.alloc (.cells #[.slice A0 n0 c0,.slice A1 n1 c1,.slice A2 n2 c2,.int .i64 q1,.int .i64 q2,.int .i64 q3,.int .u64 q4] 34)).alloc (.cells #[.slice B0 m0 d0,.slice B1 m1 d1,.slice B2 m2 d2,.int .i64 r1,.int .i64 r2,.int .i64 r3,.int .u64 r4] 34))):=((qBO _ _).alloc (qBL _) _).alloc (by simp) _
 by_cases e0:n0=m0
 rotate_left
 · have HF:Hid (eqB fx fy=false):=qHf fun e=>e0 (by rw[←HN0.out,←HM0.out,e])
   have t0:((n0:Int) != (m0:Int))=true:=by simp;omega
   have t1:(n0 != m0)=true:=by simpa using e0
   clear e0
   go_enter Tryz.func15,Tryz.ntmps15
   go_wp2_with fail
   go_ret;exact⟨by rw[HE.out,HF.out];simp,HB0.out⟩
 subst e0
 by_cases g1:q1=r1
 rotate_left
 · have b2:(q1 != r1)=true:=by simpa using g1
   have b3:decide (q1=r1)=false:=by simpa using g1
   clear g1;exact qx
 subst g1
 by_cases g2:q2=r2
 rotate_left
 · have b2:(q2 != r2)=true:=by simpa using g2
   have b3:decide (q2=r2)=false:=by simpa using g2
   clear g2;exact qx
 subst g2
 by_cases g3:q3=r3
 rotate_left
 · have b2:(q3 != r3)=true:=by simpa using g3
   have b3:decide (q3=r3)=false:=by simpa using g3
   clear g3;exact qx
 subst g3
 by_cases g4:q4=r4
 rotate_left
 · have b2:(q4 != r4)=true:=by simpa using g4
   have b3:decide (q4=r4)=false:=by simpa using g4
   clear g4;exact qx
 subst g4;have HE2:Hid (g=(eqB fx fy && b1 && b2)):=by show _=_;rw[HE.out];simp
 clear HE HB0
 go_enter Tryz.func15,Tryz.ntmps15
 go_upto_region 1 with(fail)
 refine qBV fun W hW=> ?_;have HBW:Hid (Below w.heap.size w W):=by show Below _ _ _;rw[hW];exact((qBO _ _).alloc (qBL _) _).alloc (by simp) _
 have HCW:Hid (C7 w.heap.size (.slice A0 n0 c0) (.slice A1 n1 c1) (.slice A2 n2 c2) (.int .i64 q1) (.int .i64 q2) (.int .i64 q3) (.int .u64 q4) W∧C7 (w.heap.size+1) (.slice B0 n0 d0) (.slice B1 m1 d1) (.slice B2 m2 d2) (.int .i64 q1) (.int .i64 q2) (.int .i64 q3) (.int .u64 q4) W):=by show _∧_;rw[hW];exact⟨by simp[C7,go_sem],by simp[C7,go_sem]⟩
 have hsW:w.heap.size+1<W.heap.size:=by rw[hW];simp
 clear hW;have HCV:Hid (∀v,Below W.heap.size W v→C7 w.heap.size (.slice A0 n0 c0) (.slice A1 n1 c1) (.slice A2 n2 c2) (.int .i64 q1) (.int .i64 q2) (.int .i64 q3) (.int .u64 q4) v∧C7 (w.heap.size+1) (.slice B0 n0 d0) (.slice B1 m1 d1) (.slice B2 m2 d2) (.int .i64 q1) (.int .i64 q2) (.int .i64 q3) (.int .u64 q4) v):=fun v hb=>⟨HCW.out.1.below hb (by omega),HCW.out.2.below hb hsW⟩;refine jL ?_;intro HBB;obtain⟨⟨x0,x1,x2,x3,x4,x5,x6⟩,u0,u1,u2,u3,u4,u5,u6⟩:=HCW.out
 go_upto_region 4 with(fail)
 clear x0 x1 x2 x3 x4 x5 x6 u0 u1 u2 u3 u4 u5 u6
 go_loopw [5] (fun i wr=>∃k:Nat,k≤n0∧i= .int .i64 (k:Nat)∧fx.take k=fy.take k∧Below W.heap.size W wr) (fun i _=>n0-(intOf i).toNat)
 case atStart=>exact⟨0,qBU _,rfl,by simp,qBO _ _⟩
 case round=>
  obtain⟨wf,eW⟩:∃wf,wf=wr:=⟨_,rfl⟩;subst eW;obtain⟨k,hk,rfl,heq,hbel⟩:=hrel;have HEQ:=qBK heq;have HBf:=qBK hbel;clear heq hbel;obtain⟨⟨x0,x1,x2,x3,x4,x5,x6⟩,u0,u1,u2,u3,u4,u5,u6⟩:=HCV.out wf HBf.out
  by_cases hlt:k<n0
  · as_aux_lemma=>
    obtain⟨f,hf⟩:∃f,fx[k]? =some f:=⟨fx[k]'(by rw[HN0.out];exact hlt),List.getElem?_eq_getElem _⟩;obtain⟨p,hp⟩:∃p,fy[k]? =some p:=⟨fy[k]'(by rw[HM0.out];exact hlt),List.getElem?_eq_getElem _⟩;obtain⟨a,csa,ea,hab,hca,hRa⟩:=HS0.out.at hf;obtain⟨b,csb,eb,hbb,hcb,hRb⟩:=HT0.out.at hp;subst ea eb;obtain⟨P0,e0,P1,e1,rfl,-,pm0,-,pm1,sa,sb,-,-⟩:=qDS hRa;obtain⟨Q0,o0,Q1,o1,rfl,-,qm0,-,qm1,ta,tb,-,-⟩:=qDS hRb;have hsm:=HZ4.out f (qBQ hf);have hsm':=HY4.out p (qBQ hp);have HCA:Hid (∀v,Below W.heap.size W v→(v.cell? (a.add (k*4))=some (.int .i64 f.fn)∧v.cell? ⟨(a.add (k*4)).block,(a.add (k*4)).off+1,none⟩=some (.int .i64 f.pc)∧v.cell? ⟨(a.add (k*4)).block,(a.add (k*4)).off+2,none⟩=some (.slice P0 f.locs.length e0)∧v.cell? ⟨(a.add (k*4)).block,(a.add (k*4)).off+3,none⟩=some (.slice P1 f.stk.length e1))∧v.cell? (b.add (k*4))=some (.int .i64 p.fn)∧v.cell? ⟨(b.add (k*4)).block,(b.add (k*4)).off+1,none⟩=some (.int .i64 p.pc)∧v.cell? ⟨(b.add (k*4)).block,(b.add (k*4)).off+2,none⟩=some (.slice Q0 p.locs.length o0)∧v.cell? ⟨(b.add (k*4)).block,(b.add (k*4)).off+3,none⟩=some (.slice Q1 p.stk.length o1)):=fun v hb=>by
     have hb2:=HBB.out v hb;have g:∀(a:Addr) (i:Nat) (u:Value),a.block<w.heap.size→0<i→w.cell? (a.add (k*4+i))=some u→v.cell? ⟨(a.add (k*4)).block,(a.add (k*4)).off+i,none⟩=some u:=fun a i u h1 h2 h3=>by
      have:=(hb2.cell (p:=a.add (k*4+i)) (by rw[qBn];exact h1)).trans h3
      rwa [qBT a (k*4) i h2] at this
     exact⟨⟨(hb2.cell (p:=a.add (k*4)) qD).trans (hca 0 _ rfl),g a 1 _ hab (by omega) (hca 1 _ rfl),g a 2 _ hab (by omega) (hca 2 _ rfl),g a 3 _ hab (by omega) (hca 3 _ rfl)⟩,(hb2.cell (p:=b.add (k*4)) zS).trans (hcb 0 _ rfl),g b 1 _ hbb (by omega) (hcb 1 _ rfl),g b 2 _ hbb (by omega) (hcb 2 _ rfl),g b 3 _ hbb (by omega) (hcb 3 _ rfl)⟩
    have HWA:Hid (∀v,Below w.heap.size w v→Calls Tryz.prog 35 #[.slice P0 f.locs.length e0,.slice Q0 p.locs.length o0] v (Tells (eqB f.locs p.locs) v)):=fun v hb=>(qEM P0 Q0 _ _ e0 o0 f.locs p.locs v _ _ rfl rfl (qDD sa hb) (qDD ta hb) (by have:=hsm.1;omega) (by have:=hsm'.1;omega)).mono fun e w2 h=>⟨h.1,by obtain⟨q,rfl⟩:=h.2;exact qBj _ _⟩;have HWB:Hid (∀v,Below w.heap.size w v→Calls Tryz.prog 35 #[.slice P1 f.stk.length e1,.slice Q1 p.stk.length o1] v (Tells (eqB f.stk p.stk) v)):=fun v hb=>(qEM P1 Q1 _ _ e1 o1 f.stk p.stk v _ _ rfl rfl (qDD sb hb) (qDD tb hb) (by have:=hsm.2;omega) (by have:=hsm'.2;omega)).mono fun e w2 h=>⟨h.1,by obtain⟨q,rfl⟩:=h.2;exact qBj _ _⟩;have HFE:Hid (∀z,eqB f p=z→(decide (f.fn=p.fn) && decide (f.pc=p.pc) && eqB f.locs p.locs && eqB f.stk p.stk)=z):=fun z e=>by rw[←qHg];exact e
    have HNO:Hid ((decide (f.fn=p.fn) && decide (f.pc=p.pc) && eqB f.locs p.locs && eqB f.stk p.stk)=false→g=false):=fun e=>by
     rw[←qHg] at e;rw[HE2.out,qHf (qHc hf hp (qMD e))]
     rfl
    have HYES:Hid ((decide (f.fn=p.fn) && decide (f.pc=p.pc) && eqB f.locs p.locs && eqB f.stk p.stk)=true→fx.take (k+1)=fy.take (k+1)):=fun e=>by
     rw[←qHg] at e;exact qD2 HEQ.out hf hp (qDb.1 e)
    have k0:(0:Int)≤(k:Int):=by omega
    have k1:(k:Int)<(n0:Int):=by omega
    clear hca hcb hRa hRb pm0 pm1 qm0 qm1 sa sb ta tb hsm hsm' hf hp HFE;generalize f.fn=f1 at*;generalize f.pc=f2 at*;generalize f.locs.length=f3 at*;generalize f.stk.length=f4 at*;generalize p.fn=p1 at*;generalize p.pc=p2 at*;generalize p.locs.length=p3 at*;generalize p.stk.length=p4 at*;generalize eqB f.locs p.locs=bl at*;generalize eqB f.stk p.stk=bs at*
    go_upto_region 6 with(fail)
    have hsf:=HBf.out.size;have HSS:Hid (∀v,Below W.heap.size W v→v.cell? ⟨w.heap.size,0,none⟩=some (.slice (some a) n0 c0)∧v.cell? ⟨w.heap.size+1,0,none⟩=some (.slice (some b) n0 d0)∧(v.cell? (a.add (k*4))=some (.int .i64 f1)∧v.cell? ⟨(a.add (k*4)).block,(a.add (k*4)).off+1,none⟩=some (.int .i64 f2)∧v.cell? ⟨(a.add (k*4)).block,(a.add (k*4)).off+2,none⟩=some (.slice P0 f3 e0)∧v.cell? ⟨(a.add (k*4)).block,(a.add (k*4)).off+3,none⟩=some (.slice P1 f4 e1))∧v.cell? (b.add (k*4))=some (.int .i64 p1)∧v.cell? ⟨(b.add (k*4)).block,(b.add (k*4)).off+1,none⟩=some (.int .i64 p2)∧v.cell? ⟨(b.add (k*4)).block,(b.add (k*4)).off+2,none⟩=some (.slice Q0 p3 o0)∧v.cell? ⟨(b.add (k*4)).block,(b.add (k*4)).off+3,none⟩=some (.slice Q1 p4 o1)):=fun v hb=>⟨(HCV.out v hb).1.1,(HCV.out v hb).2.1,HCA.out v hb⟩;have HLV:Hid (∀v:World,(∀b,b<W.heap.size→v.heap[b]? =wf.heap[b]?)→v.cell? ⟨w.heap.size,0,none⟩=some (.slice (some a) n0 c0)∧v.cell? ⟨w.heap.size+1,0,none⟩=some (.slice (some b) n0 d0)∧(v.cell? (a.add (k*4))=some (.int .i64 f1)∧v.cell? ⟨(a.add (k*4)).block,(a.add (k*4)).off+1,none⟩=some (.int .i64 f2)∧v.cell? ⟨(a.add (k*4)).block,(a.add (k*4)).off+2,none⟩=some (.slice P0 f3 e0)∧v.cell? ⟨(a.add (k*4)).block,(a.add (k*4)).off+3,none⟩=some (.slice P1 f4 e1))∧v.cell? (b.add (k*4))=some (.int .i64 p1)∧v.cell? ⟨(b.add (k*4)).block,(b.add (k*4)).off+1,none⟩=some (.int .i64 p2)∧v.cell? ⟨(b.add (k*4)).block,(b.add (k*4)).off+2,none⟩=some (.slice Q0 p3 o0)∧v.cell? ⟨(b.add (k*4)).block,(b.add (k*4)).off+3,none⟩=some (.slice Q1 p4 o1)):=fun v hv=>by
     have e:∀q u,wf.cell? q=some u→q.block<W.heap.size→v.cell? q=some u:=fun q u h1 h2=>(qBd (hv _ h2)).trans h1;obtain⟨s1,s2,⟨s3,s4,s5,s6⟩,s7,s8,s9,s10⟩:=HSS.out wf HBf.out;have ha:a.block<W.heap.size:=qBN hab HBW.out.size;have hb:b.block<W.heap.size:=qBN hbb HBW.out.size;exact⟨e _ _ s1 q7,e _ _ s2 hsW,⟨e _ _ s3 (by rw[qBn];exact ha),e _ _ s4 (by show(a.add _).block<_;rw[qBn];exact ha),e _ _ s5 (by show(a.add _).block<_;rw[qBn];exact ha),e _ _ s6 (by show(a.add _).block<_;rw[qBn];exact ha)⟩,e _ _ s7 zk,e _ _ s8 (by show(b.add _).block<_;rw[qBn];exact hb),e _ _ s9 (by show(b.add _).block<_;rw[qBn];exact hb),e _ _ s10 (by show(b.add _).block<_;rw[qBn];exact hb)⟩
    have hDr:∀(v:World) (b:Nat),v.drew.heap[b]? =v.heap[b]? :=fun _ _=>rfl;have hSt:∀(v:World) (b b' i:Nat) (u:Value),b≠b'→(v.setCell ⟨b',i,none⟩ u).heap[b]? =v.heap[b]? :=fun v b b' i u h=>qBP _ _ _ _ h;have hAl:∀(v:World) (o:Obj) (b:Nat),b<v.heap.size→(v.alloc o).heap[b]? =v.heap[b]? :=fun v o b h=>qBX v o b h;clear x0 x1 x2 x3 x4 x5 x6 u0 u1 u2 u3 u4 u5 u6
    go_region_held3 (fun v=>v.cell? ⟨w.heap.size,0,none⟩=some (.slice (some a) n0 c0)∧v.cell? ⟨w.heap.size+1,0,none⟩=some (.slice (some b) n0 d0)∧(v.cell? (a.add (k*4))=some (.int .i64 f1)∧v.cell? ⟨(a.add (k*4)).block,(a.add (k*4)).off+1,none⟩=some (.int .i64 f2)∧v.cell? ⟨(a.add (k*4)).block,(a.add (k*4)).off+2,none⟩=some (.slice P0 f3 e0)∧v.cell? ⟨(a.add (k*4)).block,(a.add (k*4)).off+3,none⟩=some (.slice P1 f4 e1))∧v.cell? (b.add (k*4))=some (.int .i64 p1)∧v.cell? ⟨(b.add (k*4)).block,(b.add (k*4)).off+1,none⟩=some (.int .i64 p2)∧v.cell? ⟨(b.add (k*4)).block,(b.add (k*4)).off+2,none⟩=some (.slice Q0 p3 o0)∧v.cell? ⟨(b.add (k*4)).block,(b.add (k*4)).off+3,none⟩=some (.slice Q1 p4 o1))
     (first|exact HSS.out _ HBf.out.drew|(refine HLV.out _ fun b hb=> ?_;repeat(first|with_reducible exact rfl|(with_reducible refine(hDr _ _).trans ?_)|((with_reducible refine(hSt _ _ _ _ _ ?_).trans ?_);(first|omega|(simp;omega)))|((with_reducible refine(hAl _ _ _ ?_).trans ?_);(first|omega|(simp[World.setCell];omega))))))
     (fail)
    · skip
      go_upto_region 7 with(fail)
      refine qBV fun X hX=> ?_;refine qBI ?_;intro HBX;have HCF:Hid (C4 (wf.heap.size) (.int .i64 f1) (.int .i64 f2) (.slice P0 f3 e0) (.slice P1 f4 e1) X∧C4 (wf.heap.size+1) (.int .i64 p1) (.int .i64 p2) (.slice Q0 p3 o0) (.slice Q1 p4 o1) X∧wf.heap.size+1<X.heap.size):=by show _∧_∧_;rw[hX];exact⟨by simp[C4,go_sem],by simp[C4,go_sem],by simp⟩
      clear hX;have HCX:Hid (∀v,Below X.heap.size X v→C4 (wf.heap.size) (.int .i64 f1) (.int .i64 f2) (.slice P0 f3 e0) (.slice P1 f4 e1) v∧C4 (wf.heap.size+1) (.int .i64 p1) (.int .i64 p2) (.slice Q0 p3 o0) (.slice Q1 p4 o1) v):=fun v hb=>⟨HCF.out.1.below hb (by have:=HCF.out.2.2;omega),HCF.out.2.1.below hb (by have:=HCF.out.2.2;omega)⟩;exact qC
    · skip
      go_upto_region 7 with(fail)
      refine qBV fun X hX=> ?_;refine qBI ?_;intro HBX;have HCF:Hid (C4 (wf.heap.size+1) (.int .i64 f1) (.int .i64 f2) (.slice P0 f3 e0) (.slice P1 f4 e1) X∧C4 (wf.heap.size) (.int .i64 p1) (.int .i64 p2) (.slice Q0 p3 o0) (.slice Q1 p4 o1) X∧wf.heap.size+1<X.heap.size):=by show _∧_∧_;rw[hX];exact⟨by simp[C4,go_sem],by simp[C4,go_sem],by simp⟩
      clear hX;have HCX:Hid (∀v,Below X.heap.size X v→C4 (wf.heap.size+1) (.int .i64 f1) (.int .i64 f2) (.slice P0 f3 e0) (.slice P1 f4 e1) v∧C4 (wf.heap.size) (.int .i64 p1) (.int .i64 p2) (.slice Q0 p3 o0) (.slice Q1 p4 o1) v):=fun v hb=>⟨HCF.out.1.below hb (by have:=HCF.out.2.2;omega),HCF.out.2.1.below hb (by have:=HCF.out.2.2;omega)⟩;exact qC
  · obtain rfl:n0=k:=by omega
    have HFE:Hid (eqB fx fy=true):=by
     have e:=HEQ.out;rw[qBS (by rw[HN0.out];exact qBL _),qBS (by rw[HM0.out];exact qBL _)] at e
     show _=_
     rw[e,qEe]
    cases b1
    all_goals
     go_wp2_with (first
      |(go_at_call 36
        (with_reducible refine(T1.out _ ?_).mono ?_)
        · exact HBB.out _ HBf.out
        rintro e z1 ⟨rfl,hz1⟩;have HZ1:=qBK (HBf.out.trans (hz1.mono HBf.out.size));obtain⟨⟨x0,x1,x2,x3,x4,x5,x6⟩,u0,u1,u2,u3,u4,u5,u6⟩:=HCV.out z1 HZ1.out;clear hz1)
      |(go_at_call 37
        (with_reducible refine(T2.out _ ?_).mono ?_)
        · exact HBB.out _ HZ1.out
        rintro e z2 ⟨rfl,hz2⟩;have HZ2:=qBK (HZ1.out.trans (hz2.mono HZ1.out.size));clear hz2))
     go_ret
     first|exact⟨by rw[HE2.out,HFE.out];simp,HBB.out _ HZ2.out⟩|exact⟨by rw[HE2.out,HFE.out];simp,HBB.out _ HZ1.out⟩
end Go.Proofs.YtgdbhanhmenmfaaGreat
