/-
Rwd Rob Rha Rst Rbg
-/
import Derived.Test.YtconajaecpgjgaaGreatQ02
import Derived.Test.YtconajaecpgjgaaGreatQ07
import Derived.Test.YtconajaecpgjgaaGreatQ09
import Derived.Test.YtconajaecpgjgaaGreatQ12
import Derived.BigQuiet
import Derived.Laws.Strings
import Derived.Deep.RegionHeld3
import Derived.Deep.DeepCutAuto
set_option linter.unusedSimpArgs false
set_option linter.unusedVariables false
set_option maxRecDepth 100000
set_option maxHeartbeats 4000000
namespace Go.Proofs.YtconajaecpgjgaaGreat
open Go.RowKit
theorem qJ {P:Prop} (h:P:=by
 go_wp2_with (first
  |(go_at_call 8
    refine(BN1.out _ (HBB.out _ HB1.out)).mono ?_
    rintro e w2 ⟨rfl,hb_w2⟩
    have HB2:=qAU (HB1.out.trans (hb_w2.mono HB1.out.size))
    obtain⟨y0,y1,y2,y3,y4⟩:=HCV.out w2 HB2.out
    have hs2:=HB2.out.size
    have z0:=fun o=>(HCV.out _ (HB2.out.alloc HB2.out.size o)).1
    have z1:=fun o=>(HCV.out _ (HB2.out.alloc HB2.out.size o)).2.1
    have z2:=fun o=>(HCV.out _ (HB2.out.alloc HB2.out.size o)).2.2.1
    have z3:=fun o=>(HCV.out _ (HB2.out.alloc HB2.out.size o)).2.2.2.1
    have z4:=fun o=>(HCV.out _ (HB2.out.alloc HB2.out.size o)).2.2.2.2
    clear x0 x1 x2 x3 x4
    clear hb_w2)
  |(go_at_call 9
    refine(RM1.out _ (HBB.out _ (HB2.out.alloc HB2.out.size _))).mono ?_
    rintro e w3 ⟨rfl,hb_w3⟩
    have HB3:=qAU ((HB2.out.alloc HB2.out.size _).trans (hb_w3.mono (HB2.out.alloc HB2.out.size _).size))
    have HS3:Hid (∀v,Below w3.heap.size w3 v→Blk v w2.heap.size 36 #[.slice none 0 0,.slice none 0 0,.slice none 0 0,.int .i64 0,.int .i64 0,.int .i64 0,.int .u64 0]):=fun v hb=>qAX (qAX (qAh (v:=w2) rfl) hb_w3 (by simp)) hb (by have:=hb_w3.size;simp at this;omega)
    clear hb_w3)
  |(go_at_call 7
    refine(AN.out _).mono ?_
    rintro e w4 ⟨rfl,hb_w4⟩
    have HB4:=qAU (HB3.out.trans (hb_w4.mono HB3.out.size))
    have hk4:=HS3.out w4 hb_w4
    have u0:=hk4.cell 0
    have u1:=hk4.cell 1
    have u2:=hk4.cell 2
    have u3:=hk4.cell 3
    have u4:=hk4.cell 4
    have u5:=hk4.cell 5
    have u6:=hk4.cell 6
    clear hk4
    clear hb_w4)
  |(go_at_call 10
    refine(SZ.out _).mono ?_
    rintro e w5 ⟨rfl,hb_w5⟩
    have HB5:=qAU (HB4.out.trans (hb_w5.mono HB4.out.size))
    clear hb_w5))
 go_ret
 exact⟨rfl,HBB.out _ HB5.out⟩):P:=h
theorem qN {P:Prop} (h:P:=by
 obtain⟨⟨v0,v1,v2,v3⟩,w0,w1,w2,w3⟩:=HCX.out X (qAb _ _)
 by_cases g1:f1=p1
 rotate_left
 · have t0:(f1 != p1)=true:=by simpa using g1
   have HG:=qAU (HNO.out (by simp[g1]))
   clear g1
   go_wp2_with fail
   go_ret
   exact⟨by rw[HG.out];rfl,HBB.out _ HBX.out⟩
 subst g1
 by_cases g2:f2=p2
 rotate_left
 · have t0:(f2 != p2)=true:=by simpa using g2
   have HG:=qAU (HNO.out (by simp[g2]))
   clear g2
   go_wp2_with fail
   go_ret
   exact⟨by rw[HG.out];rfl,HBB.out _ HBX.out⟩
 subst g2
 cases bl
 · have HG:=qAU (HNO.out (by simp))
   go_wp2_with (first
    |(go_at_call 22
      (with_reducible refine(HWA.out _ ?_).mono ?_)
      · exact HBB.out _ HBX.out
      rintro e z1 ⟨rfl,hz1⟩
      obtain⟨⟨v0,v1,v2,v3⟩,w0,w1,w2,w3⟩:=HCX.out z1 hz1
      have HZ1:=qAU (HBX.out.trans (hz1.mono HBX.out.size))
      clear hz1)
    |(go_at_call 22
      (with_reducible refine(HWB.out _ ?_).mono ?_)
      · exact HBB.out _ HZ1.out
      rintro e z2 ⟨rfl,hz2⟩
      have HZ2:=qAU (HZ1.out.trans (hz2.mono HZ1.out.size))
      clear hz2))
   go_ret
   exact⟨by rw[HG.out];rfl,HBB.out _ HZ1.out⟩
 cases bs
 · have HG:=qAU (HNO.out (by simp))
   go_wp2_with (first
    |(go_at_call 22
      (with_reducible refine(HWA.out _ ?_).mono ?_)
      · exact HBB.out _ HBX.out
      rintro e z1 ⟨rfl,hz1⟩
      obtain⟨⟨v0,v1,v2,v3⟩,w0,w1,w2,w3⟩:=HCX.out z1 hz1
      have HZ1:=qAU (HBX.out.trans (hz1.mono HBX.out.size))
      clear hz1)
    |(go_at_call 22
      (with_reducible refine(HWB.out _ ?_).mono ?_)
      · exact HBB.out _ HZ1.out
      rintro e z2 ⟨rfl,hz2⟩
      have HZ2:=qAU (HZ1.out.trans (hz2.mono HZ1.out.size))
      clear hz2))
   go_ret
   exact⟨by rw[HG.out];rfl,HBB.out _ HZ2.out⟩
 have HY:=qAU (HYES.out (by simp))
 go_wp2_with (first
  |(go_at_call 22
    (with_reducible refine(HWA.out _ ?_).mono ?_)
    · exact HBB.out _ HBX.out
    rintro e z1 ⟨rfl,hz1⟩
    obtain⟨⟨v0,v1,v2,v3⟩,w0,w1,w2,w3⟩:=HCX.out z1 hz1
    have HZ1:=qAU (HBX.out.trans (hz1.mono HBX.out.size))
    clear hz1)
  |(go_at_call 22
    (with_reducible refine(HWB.out _ ?_).mono ?_)
    · exact HBB.out _ HZ1.out
    rintro e z2 ⟨rfl,hz2⟩
    have HZ2:=qAU (HZ1.out.trans (hz2.mono HZ1.out.size))
    clear hz2))
 exact⟨⟨k+1,by omega,by simp,HY.out,HZ2.out⟩,by simp[intOf];omega⟩):P:=h
theorem qy {P:Prop} (h:P:=by
 go_wp2_with fail
 go_quiet (first|(go_at_call 22;exact HW.out _)|(go_at_call 53;exact HY.out _))
 go_wp2_with fail
 go_ret
 exact⟨by rw[decide_eq_false (qDA HO.out HP.out (HN.out))];rfl,_,World.drewN_drewN _ _ _⟩):P:=h
theorem zt {P:Prop} (h:P:=by
 go_enter Tryz.func10,Tryz.ntmps10
 go_wp2_with fail
 go_ret
 exact⟨by rw[HE.out];simp[b3],HB0.out⟩):P:=h
theorem qFo {P:Program} {f:FuncId} {args:Array Value} {w:World} {q r:Nat} {v:Value}
 (h:Calls P f args (w.drewN (q+r)) fun e w'=>e= .returned v∧∃m,w'=(w.drewN (q+r)).drewN m):Calls P f args (w.drewN (q+r)) fun e w''=>e= .returned v∧∃m,w''=w.drewN (q+m):=
 h.mono fun _ _ ⟨he,m,hm⟩=>⟨he,r+m,by rw[hm,World.drewN_drewN,Nat.add_assoc]⟩
theorem qHS {α:Type} {La:Lay α} {S:Nat→Prop} {w:World} {A:Option Addr} {xs:List α} (h:Sq La S w A xs) (q:Nat):Sq La S (w.drewN q) A xs:=h.keep fun _ _=>rfl
theorem qC7 (A B:Option Addr) (n m c d:Nat) (xs ys:List Nat) (w:World) (S T:Nat→Prop) (hl:xs.length=n) (hm:ys.length=m) (h:Sq numL S w A xs) (h':Sq numL T w B ys) (hn2:n≤9223372036854775807) (hm2:m≤9223372036854775807):
 Calls Tryz.prog 22 #[.slice A n c,.slice B m d] w fun e w'=>e= .returned (.bool (eqB xs ys))∧∃q,w'=w.drewN q:=by
 have HL:=qAU hl
 have HM:=qAU hm
 have HS:=qAU h
 have HT:=qAU h'
 clear hl hm h h'
 by_cases hnm:n=m
 · subst hnm
   go_enter Tryz.func22,Tryz.ntmps22
   go_wp2_with fail
   go_loopw [5] (fun i wr=>∃k q:Nat,k≤n∧i= .int .i64 (k:Nat)∧xs.take k=ys.take k∧wr=w.drewN q) (fun i _=>n-(intOf i).toNat)
   case atStart=>exact⟨0,0,qAn _,rfl,by simp,rfl⟩
   case round=>
    exact qR
 · have h1:((n:Int) != (m:Int))=true:=by simp;omega
   have h2:(n != m)=true:=by simpa using hnm
   have HNM:=qAU hnm
   clear hnm
   go_enter Tryz.func22,Tryz.ntmps22
   exact js
theorem qGM {S:Nat→Prop} {w:World} {A:Option Addr} {xs:List Nat} (h:Byt S w A xs) (q:Nat):Byt S (w.drewN q) A xs:=h.keep fun _ _=>rfl
theorem qHn (A B:Option Addr) (n m c d:Nat) (O O':List Ob) (w:World) (S T:Nat→Prop) (hl:O.length=n) (hm:O'.length=m) (hA:Sq obL S w A O) (hB:Sq obL T w B O') (hz:∀o∈O,o.small) (hz':∀o∈O',o.small) (hn:n≤1000000) (hn':m≤1000000):
 Calls Tryz.prog 23 #[.slice A n c,.slice B m d] w fun e w'=>e= .returned (.bool (decide (O=O')))∧∃q,w'=w.drewN q:=by
 have HL:=qAU hl
 have HM:=qAU hm
 have HA:=qAU hA
 have HB:=qAU hB
 have HZ:=qAU hz
 have HZ':=qAU hz'
 clear hA hB hl hm hz hz'
 by_cases hnm:n=m
 rotate_left
 · have h1:((n:Int) != (m:Int))=true:=by simp;omega
   have h2:(n != m)=true:=by simpa using hnm
   have HNM:=qAU hnm
   clear hnm
   go_enter Tryz.func23,Tryz.ntmps23
   exact je
 subst hnm
 go_enter Tryz.func23,Tryz.ntmps23
 go_wp2_with fail
 go_loopw [5] (fun i wr=>∃k q:Nat,k≤n∧i= .int .i64 (k:Nat)∧O.take k=O'.take k∧wr=w.drewN q) (fun i _=>n-(intOf i).toNat)
 case atStart=>exact⟨0,0,qAn _,rfl,by simp,rfl⟩
 case round=>
  obtain⟨k,q,hk,rfl,heq,rfl⟩:=hrel
  have HE:=qAU heq
  clear heq
  by_cases hlt:k<n
  · obtain⟨o,ho⟩:∃o,O[k]? =some o:=⟨O[k]'qi,qAY _⟩
    obtain⟨p,hp⟩:∃o,O'[k]? =some o:=⟨O'[k]'jx,qAY _⟩
    have hsm:=HZ.out o (qAf ho)
    have hsm':=HZ'.out p (qAf hp)
    obtain⟨a,csa,ea,hab,hca,hRa⟩:=HA.out.at ho
    obtain⟨b,csb,eb,hbb,hcb,hRb⟩:=HB.out.at hp
    have HO:=qAU ho
    have HP:=qAU hp
    clear ho hp
    subst ea eb
    obtain⟨A0,c0,B0,d0,rfl,-,-,-,-,sA,yA,-,-,-⟩:=qCB hRa
    obtain⟨A1,c1,B1,d1,rfl,-,-,-,-,sB,yB,-,-,-⟩:=qCB hRb
    have ca0:w.cell? (a.add (k*4))=_:=hca 0 _ rfl
    have ca1:w.cell? (a.add (k*4+1))=_:=hca 1 _ rfl
    rw[qAg a (k*4) 1 (by omega)] at ca1
    have ca2:w.cell? (a.add (k*4+2))=_:=hca 2 _ rfl
    rw[qAg a (k*4) 2 (by omega)] at ca2
    have ca3:w.cell? (a.add (k*4+3))=_:=hca 3 _ rfl
    rw[qAg a (k*4) 3 (by omega)] at ca3
    have cb0:w.cell? (b.add (k*4))=_:=hcb 0 _ rfl
    have cb1:w.cell? (b.add (k*4+1))=_:=hcb 1 _ rfl
    rw[qAg b (k*4) 1 (by omega)] at cb1
    have cb2:w.cell? (b.add (k*4+2))=_:=hcb 2 _ rfl
    rw[qAg b (k*4) 2 (by omega)] at cb2
    have cb3:w.cell? (b.add (k*4+3))=_:=hcb 3 _ rfl
    rw[qAg b (k*4) 3 (by omega)] at cb3
    have k0:0≤(k:Int):=by omega
    have k1:(k:Int)<(n:Int):=by omega
    have HSA:=qAU sA
    have HSB:=qAU sB
    have HYA:=qAU yA
    have HYB:=qAU yB
    have HW:Hid (∀r,Calls Tryz.prog 22 #[.slice A0 o.words.length c0,.slice A1 p.words.length c1] (w.drewN (q+r)) fun e w''=>e= .returned (.bool (eqB o.words p.words))∧∃m,w''=w.drewN (q+m)):=fun r=>
     qFo (qC7 A0 A1 _ _ c0 c1 o.words p.words _ _ _ rfl rfl (qHS HSA.out _) (qHS HSB.out _) (by have:=hsm.1;omega) (by have:=hsm'.1;omega))
    have HY:Hid (∀r,Calls Tryz.prog 53 #[.slice B0 o.bytes.length d0,.slice B1 p.bytes.length d1] (w.drewN (q+r)) fun e w''=>e= .returned (.bool (sameB o.bytes p.bytes))∧∃m,w''=w.drewN (q+m)):=fun r=>
     qFo (qJE B0 B1 d0 d1 o.bytes p.bytes _ _ _ (qGM HYA.out _) (qGM HYB.out _) (by have:=hsm.2;omega) (by have:=hsm'.2;omega))
    clear hca hcb hRa hRb sA yA sB yB hsm hsm'
    have HEQ:Hid (o.kind=p.kind→o.n=p.n→eqB o.words p.words=true→sameB o.bytes p.bytes=true→o=p):=fun h0 h1 h2 h3=>Ob.eq_of h0 h1 (qBo.1 h2) (by simpa[sameB] using h3)
    have HN0:Hid (o.kind≠p.kind→o≠p):=fun h e=>h (by rw[e])
    have HN1:Hid (o.n≠p.n→o≠p):=fun h e=>h (by rw[e])
    have HN2:Hid (eqB o.words p.words=false→o≠p):=fun h e=>(by rw[e,qB4] at h;cases h)
    have HN3:Hid (sameB o.bytes p.bytes=false→o≠p):=fun h e=>(by rw[e] at h;simp[sameB] at h)
    generalize eqB o.words p.words=bw at*
    generalize sameB o.bytes p.bytes=bb at*
    generalize o.kind=kk at*
    generalize o.n=nn at*
    generalize o.words.length=pp at*
    generalize o.bytes.length=qq at*
    generalize p.kind=kk' at*
    generalize p.n=nn' at*
    generalize p.words.length=pp' at*
    generalize p.bytes.length=qq' at*
    by_cases g0:kk=kk'
    rotate_left
    · have HN:=qAU (HN0.out g0)
      have t0:(kk != kk')=true:=by simpa using g0
      clear g0
      exact qy
    subst g0
    have tg0:(kk != kk)=false:=by simp
    by_cases g1:nn=nn'
    rotate_left
    · have HN:=qAU (HN1.out g1)
      have t0:(nn != nn')=true:=by simpa using g1
      clear g1
      exact qy
    subst g1
    have tg1:(nn != nn)=false:=by simp
    cases bw
    · have HN:=qAU (HN2.out rfl)
      exact qy
    cases bb
    · have HN:=qAU (HN3.out rfl)
      exact qy
    · have HN:=qAU (HEQ.out rfl rfl rfl rfl)
      go_wp2_with fail
      go_quiet (first|(go_at_call 22;exact HW.out _)|(go_at_call 53;exact HY.out _))
      go_wp2_with fail
      exact⟨⟨k+1,_,by omega,by simp,qBr HE.out HO.out HP.out HN.out,rfl⟩,by simp[intOf];omega⟩
  · obtain rfl:k=n:=by omega
    go_wp2_with fail
    go_ret
    refine⟨?_,_,rfl⟩
    have e:=HE.out
    rw[qAi qd,qAi (by rw[HM.out];exact qAZ _)] at e
    rw[decide_eq_true e]
    rfl
theorem qHp (A B:Option Addr) (n m c d:Nat) (xs ys:List Hnd) (w:World) (S T:Nat→Prop) (hl:xs.length=n) (hm:ys.length=m) (h:Sq hdL S w A xs) (h':Sq hdL T w B ys) (hn2:n≤9223372036854775807) (hm2:m≤9223372036854775807):
 Calls Tryz.prog 24 #[.slice A n c,.slice B m d] w fun e w'=>e= .returned (.bool (decide (xs=ys)))∧∃q,w'=w.drewN q:=by
 have HL:=qAU hl
 have HM:=qAU hm
 have HS:=qAU h
 have HT:=qAU h'
 clear hl hm h h'
 by_cases hnm:n=m
 · subst hnm
   go_enter Tryz.func24,Tryz.ntmps24
   go_wp2_with fail
   go_loopw [5] (fun i wr=>∃k q:Nat,k≤n∧i= .int .i64 (k:Nat)∧xs.take k=ys.take k∧wr=w.drewN q) (fun i _=>n-(intOf i).toNat)
   case atStart=>exact⟨0,0,qAn _,rfl,by simp,rfl⟩
   case round=>
    exact qL
 · have h1:((n:Int) != (m:Int))=true:=by simp;omega
   have h2:(n != m)=true:=by simpa using hnm
   have HNM:=qAU hnm
   clear hnm
   go_enter Tryz.func24,Tryz.ntmps24
   exact je
theorem qDf (cs cs2:List Value) (x y:Stt) (w:World) (h:stL.R (·<w.heap.size) w cs x) (h':stL.R (·<w.heap.size) w cs2 y) (hx:x.low) (hy:y.low):Calls Tryz.prog 10 #[vAgg cs,vAgg cs2] w (Tells (eqB x y) w):=by
 obtain⟨A0,c0,A1,c1,A2,c2,rfl,k0a,k0,k1a,k1,k2a,k2,s0,s1,s2,-,-,-,-⟩:=qBT h
 obtain⟨B0,d0,B1,d1,B2,d2,rfl,l0a,l0,l1a,l1,l2a,l2,t0,t1,t2,-,-,-,-⟩:=qBT h'
 obtain⟨z1,z2,z3,z4,z5⟩:=hx
 obtain⟨y1,y2,y3,y4,y5⟩:=hy
 have T1:Hid (∀w1,Below w.heap.size w w1→Calls Tryz.prog 23 #[.slice A1 x.hp.length c1,.slice B1 y.hp.length d1] w1 (Tells (eqB x.hp y.hp) w1)):=fun w1 hb=>(qHn A1 B1 _ _ c1 d1 x.hp y.hp w1 _ _ rfl rfl (qBH s1 hb) (qBH t1 hb) z5 y5 (by omega) (by omega)).mono fun e w2 h=>⟨by rw[h.1,qEP],by obtain⟨q,rfl⟩:=h.2;exact qA3 _ _⟩
 have T2:Hid (∀w1,Below w.heap.size w w1→Calls Tryz.prog 24 #[.slice A2 x.hn.length c2,.slice B2 y.hn.length d2] w1 (Tells (eqB x.hn y.hn) w1)):=fun w1 hb=>(qHp A2 B2 _ _ c2 d2 x.hn y.hn w1 _ _ rfl rfl (qBH s2 hb) (qBH t2 hb) (by omega) (by omega)).mono fun e w2 h=>⟨by rw[h.1,qEP],by obtain⟨q,rfl⟩:=h.2;exact qA3 _ _⟩
 have HS0:Hid (Sq frL (·<w.heap.size) w A0 x.fr):=s0
 have HT0:Hid (Sq frL (·<w.heap.size) w B0 y.fr):=t0
 have HZ4:=qAU z4
 have HY4:=qAU y4
 show Calls Tryz.prog 10 #[.agg #[.slice A0 x.fr.length c0,.slice A1 x.hp.length c1,.slice A2 x.hn.length c2,.int .i64 x.quota,.int .i64 x.used,.int .i64 x.fin,.int .u64 (x.val:Int)],.agg #[.slice B0 y.fr.length d0,.slice B1 y.hp.length d1,.slice B2 y.hn.length d2,.int .i64 y.quota,.int .i64 y.used,.int .i64 y.fin,.int .u64 (y.val:Int)]] w (Tells (eqB x y) w)
 have HE:Hid (eqB x y=(decide (x.quota=y.quota) && decide (x.used=y.used) && decide (x.fin=y.fin) && decide ((x.val:Int)=(y.val:Int)) && eqB x.fr y.fr && eqB x.hp y.hp && eqB x.hn y.hn)):=by
  show _=_
  rw[qHZ,show decide (x.val=y.val)=decide ((x.val:Int)=(y.val:Int)) by rw[Bool.eq_iff_iff];simp;omega]
 have HLX:Hid (x.fr.length=x.fr.length):=rfl
 obtain⟨n0,hn0⟩:∃z,x.fr.length=z:=⟨_,rfl⟩
 obtain⟨m0,hm0⟩:∃z,y.fr.length=z:=⟨_,rfl⟩
 have HN0:=qAU hn0
 have HM0:=qAU hm0
 rw[hn0,hm0]
 rw[hn0] at z1
 clear k0a k0 k1a k1 k2a k2 s0 s1 s2 l0a l0 l1a l1 l2a l2 t0 t1 t2 h h' z2 z3 z4 z5 y1 y2 y3 y4 y5 hn0 hm0 HLX
 generalize eqB x y=g at*
 generalize x.hp.length=n1 at*
 generalize y.hp.length=m1 at*
 generalize x.hn.length=n2 at*
 generalize y.hn.length=m2 at*
 generalize eqB x.hp y.hp=b1 at*
 generalize eqB x.hn y.hn=b2 at*
 generalize x.quota=q1 at*
 generalize x.used=q2 at*
 generalize x.fin=q3 at*
 generalize (x.val:Int)=q4 at*
 generalize y.quota=r1 at*
 generalize y.used=r2 at*
 generalize y.fin=r3 at*
 generalize (y.val:Int)=r4 at*
 generalize x.fr=fx at*
 generalize y.fr=fy at*
 have HB0:Hid (Below w.heap.size w ((w.alloc (.cells #[.slice A0 n0 c0,.slice A1 n1 c1,.slice A2 n2 c2,.int .i64 q1,.int .i64 q2,.int .i64 q3,.int .u64 q4] 36)).alloc (.cells #[.slice B0 m0 d0,.slice B1 m1 d1,.slice B2 m2 d2,.int .i64 r1,.int .i64 r2,.int .i64 r3,.int .u64 r4] 36))):=((qAb _ _).alloc (qAZ _) _).alloc (by simp) _
 by_cases e0:n0=m0
 rotate_left
 · have HF:Hid (eqB fx fy=false):=qCE fun e=>e0 (by rw[←HN0.out,←HM0.out,e])
   have t0:((n0:Int) != (m0:Int))=true:=by simp;omega
   have t1:(n0 != m0)=true:=by simpa using e0
   clear e0
   go_enter Tryz.func10,Tryz.ntmps10
   go_wp2_with fail
   go_ret
   exact⟨by rw[HE.out,HF.out];simp,HB0.out⟩
 subst e0
 by_cases g1:q1=r1
 rotate_left
 · have b2:(q1 != r1)=true:=by simpa using g1
   have b3:decide (q1=r1)=false:=by simpa using g1
   clear g1
   exact zt
 subst g1
 by_cases g2:q2=r2
 rotate_left
 · have b2:(q2 != r2)=true:=by simpa using g2
   have b3:decide (q2=r2)=false:=by simpa using g2
   clear g2
   exact zt
 subst g2
 by_cases g3:q3=r3
 rotate_left
 · have b2:(q3 != r3)=true:=by simpa using g3
   have b3:decide (q3=r3)=false:=by simpa using g3
   clear g3
   exact zt
 subst g3
 by_cases g4:q4=r4
 rotate_left
 · have b2:(q4 != r4)=true:=by simpa using g4
   have b3:decide (q4=r4)=false:=by simpa using g4
   clear g4
   exact zt
 subst g4
 have HE2:Hid (g=(eqB fx fy && b1 && b2)):=by show _=_;rw[HE.out];simp
 clear HE HB0
 go_enter Tryz.func10,Tryz.ntmps10
 go_upto_region 1 with(fail)
 refine qAj fun W hW=> ?_
 have HBW:Hid (Below w.heap.size w W):=by show Below _ _ _;rw[hW];exact((qAb _ _).alloc (qAZ _) _).alloc (by simp) _
 have HCW:Hid (C7 w.heap.size (.slice A0 n0 c0) (.slice A1 n1 c1) (.slice A2 n2 c2) (.int .i64 q1) (.int .i64 q2) (.int .i64 q3) (.int .u64 q4) W∧C7 (w.heap.size+1) (.slice B0 n0 d0) (.slice B1 m1 d1) (.slice B2 m2 d2) (.int .i64 q1) (.int .i64 q2) (.int .i64 q3) (.int .u64 q4) W):=by show _∧_;rw[hW];exact⟨by simp[C7,go_sem],by simp[C7,go_sem]⟩
 have hsW:w.heap.size+1<W.heap.size:=by rw[hW];simp
 clear hW
 have HCV:Hid (∀v,Below W.heap.size W v→C7 w.heap.size (.slice A0 n0 c0) (.slice A1 n1 c1) (.slice A2 n2 c2) (.int .i64 q1) (.int .i64 q2) (.int .i64 q3) (.int .u64 q4) v∧C7 (w.heap.size+1) (.slice B0 n0 d0) (.slice B1 m1 d1) (.slice B2 m2 d2) (.int .i64 q1) (.int .i64 q2) (.int .i64 q3) (.int .u64 q4) v):=fun v hb=>⟨HCW.out.1.below hb (by omega),HCW.out.2.below hb hsW⟩
 have HBB:Hid (∀v,Below W.heap.size W v→Below w.heap.size w v):=fun v hb=>HBW.out.trans (hb.mono HBW.out.size)
 obtain⟨⟨x0,x1,x2,x3,x4,x5,x6⟩,u0,u1,u2,u3,u4,u5,u6⟩:=HCW.out
 go_upto_region 4 with(fail)
 clear x0 x1 x2 x3 x4 x5 x6 u0 u1 u2 u3 u4 u5 u6
 go_loopw [5] (fun i wr=>∃k:Nat,k≤n0∧i= .int .i64 (k:Nat)∧fx.take k=fy.take k∧Below W.heap.size W wr) (fun i _=>n0-(intOf i).toNat)
 case atStart=>exact⟨0,qAn _,rfl,by simp,qAb _ _⟩
 case round=>
  obtain⟨wf,eW⟩:∃wf,wf=wr:=⟨_,rfl⟩
  subst eW
  obtain⟨k,hk,rfl,heq,hbel⟩:=hrel
  have HEQ:=qAU heq
  have HBf:=qAU hbel
  clear heq hbel
  obtain⟨⟨x0,x1,x2,x3,x4,x5,x6⟩,u0,u1,u2,u3,u4,u5,u6⟩:=HCV.out wf HBf.out
  by_cases hlt:k<n0
  · as_aux_lemma=>
    obtain⟨f,hf⟩:∃f,fx[k]? =some f:=⟨fx[k]'(by rw[HN0.out];exact hlt),qAY _⟩
    obtain⟨p,hp⟩:∃p,fy[k]? =some p:=⟨fy[k]'(by rw[HM0.out];exact hlt),qAY _⟩
    obtain⟨a,csa,ea,hab,hca,hRa⟩:=HS0.out.at hf
    obtain⟨b,csb,eb,hbb,hcb,hRb⟩:=HT0.out.at hp
    subst ea eb
    obtain⟨P0,e0,P1,e1,rfl,-,pm0,-,pm1,sa,sb,-,-⟩:=qBt hRa
    obtain⟨Q0,o0,Q1,o1,rfl,-,qm0,-,qm1,ta,tb,-,-⟩:=qBt hRb
    have hsm:=HZ4.out f (qAf hf)
    have hsm':=HY4.out p (qAf hp)
    have HCA:Hid (∀v,Below W.heap.size W v→(v.cell? (a.add (k*4))=some (.int .i64 f.fn)∧v.cell? ⟨(a.add (k*4)).block,(a.add (k*4)).off+1,none⟩=some (.int .i64 f.pc)∧v.cell? ⟨(a.add (k*4)).block,(a.add (k*4)).off+2,none⟩=some (.slice P0 f.locs.length e0)∧v.cell? ⟨(a.add (k*4)).block,(a.add (k*4)).off+3,none⟩=some (.slice P1 f.stk.length e1))∧v.cell? (b.add (k*4))=some (.int .i64 p.fn)∧v.cell? ⟨(b.add (k*4)).block,(b.add (k*4)).off+1,none⟩=some (.int .i64 p.pc)∧v.cell? ⟨(b.add (k*4)).block,(b.add (k*4)).off+2,none⟩=some (.slice Q0 p.locs.length o0)∧v.cell? ⟨(b.add (k*4)).block,(b.add (k*4)).off+3,none⟩=some (.slice Q1 p.stk.length o1)):=fun v hb=>by
     have hb2:=HBB.out v hb
     have g:∀(a:Addr) (i:Nat) (u:Value),a.block<w.heap.size→0<i→w.cell? (a.add (k*4+i))=some u→v.cell? ⟨(a.add (k*4)).block,(a.add (k*4)).off+i,none⟩=some u:=fun a i u h1 h2 h3=>by
      have:=(hb2.cell (p:=a.add (k*4+i)) (by rw[qAz];exact h1)).trans h3
      rwa [qAg a (k*4) i h2] at this
     exact⟨⟨(hb2.cell (p:=a.add (k*4)) qG).trans (hca 0 _ rfl),g a 1 _ hab (by omega) (hca 1 _ rfl),g a 2 _ hab (by omega) (hca 2 _ rfl),g a 3 _ hab (by omega) (hca 3 _ rfl)⟩,(hb2.cell (p:=b.add (k*4)) qp).trans (hcb 0 _ rfl),g b 1 _ hbb (by omega) (hcb 1 _ rfl),g b 2 _ hbb (by omega) (hcb 2 _ rfl),g b 3 _ hbb (by omega) (hcb 3 _ rfl)⟩
    have HWA:Hid (∀v,Below w.heap.size w v→Calls Tryz.prog 22 #[.slice P0 f.locs.length e0,.slice Q0 p.locs.length o0] v (Tells (eqB f.locs p.locs) v)):=fun v hb=>(qC7 P0 Q0 _ _ e0 o0 f.locs p.locs v _ _ rfl rfl (qBH sa hb) (qBH ta hb) (by have:=hsm.1;omega) (by have:=hsm'.1;omega)).mono fun e w2 h=>⟨h.1,by obtain⟨q,rfl⟩:=h.2;exact qA3 _ _⟩
    have HWB:Hid (∀v,Below w.heap.size w v→Calls Tryz.prog 22 #[.slice P1 f.stk.length e1,.slice Q1 p.stk.length o1] v (Tells (eqB f.stk p.stk) v)):=fun v hb=>(qC7 P1 Q1 _ _ e1 o1 f.stk p.stk v _ _ rfl rfl (qBH sb hb) (qBH tb hb) (by have:=hsm.2;omega) (by have:=hsm'.2;omega)).mono fun e w2 h=>⟨h.1,by obtain⟨q,rfl⟩:=h.2;exact qA3 _ _⟩
    have HFE:Hid (∀z,eqB f p=z→(decide (f.fn=p.fn) && decide (f.pc=p.pc) && eqB f.locs p.locs && eqB f.stk p.stk)=z):=fun z e=>by rw[←qDx];exact e
    have HNO:Hid ((decide (f.fn=p.fn) && decide (f.pc=p.pc) && eqB f.locs p.locs && eqB f.stk p.stk)=false→g=false):=fun e=>by
     rw[←qDx] at e
     rw[HE2.out,qCE (qDA hf hp (qDZ e))]
     rfl
    have HYES:Hid ((decide (f.fn=p.fn) && decide (f.pc=p.pc) && eqB f.locs p.locs && eqB f.stk p.stk)=true→fx.take (k+1)=fy.take (k+1)):=fun e=>by
     rw[←qDx] at e
     exact qBr HEQ.out hf hp (qBo.1 e)
    have k0:(0:Int)≤(k:Int):=by omega
    have k1:(k:Int)<(n0:Int):=by omega
    clear hca hcb hRa hRb pm0 pm1 qm0 qm1 sa sb ta tb hsm hsm' hf hp HFE
    generalize f.fn=f1 at*
    generalize f.pc=f2 at*
    generalize f.locs.length=f3 at*
    generalize f.stk.length=f4 at*
    generalize p.fn=p1 at*
    generalize p.pc=p2 at*
    generalize p.locs.length=p3 at*
    generalize p.stk.length=p4 at*
    generalize eqB f.locs p.locs=bl at*
    generalize eqB f.stk p.stk=bs at*
    go_upto_region 6 with(fail)
    have hsf:=HBf.out.size
    have HSS:Hid (∀v,Below W.heap.size W v→v.cell? ⟨w.heap.size,0,none⟩=some (.slice (some a) n0 c0)∧v.cell? ⟨w.heap.size+1,0,none⟩=some (.slice (some b) n0 d0)∧(v.cell? (a.add (k*4))=some (.int .i64 f1)∧v.cell? ⟨(a.add (k*4)).block,(a.add (k*4)).off+1,none⟩=some (.int .i64 f2)∧v.cell? ⟨(a.add (k*4)).block,(a.add (k*4)).off+2,none⟩=some (.slice P0 f3 e0)∧v.cell? ⟨(a.add (k*4)).block,(a.add (k*4)).off+3,none⟩=some (.slice P1 f4 e1))∧v.cell? (b.add (k*4))=some (.int .i64 p1)∧v.cell? ⟨(b.add (k*4)).block,(b.add (k*4)).off+1,none⟩=some (.int .i64 p2)∧v.cell? ⟨(b.add (k*4)).block,(b.add (k*4)).off+2,none⟩=some (.slice Q0 p3 o0)∧v.cell? ⟨(b.add (k*4)).block,(b.add (k*4)).off+3,none⟩=some (.slice Q1 p4 o1)):=fun v hb=>⟨(HCV.out v hb).1.1,(HCV.out v hb).2.1,HCA.out v hb⟩
    have HLV:Hid (∀v:World,(∀b,b<W.heap.size→v.heap[b]? =wf.heap[b]?)→v.cell? ⟨w.heap.size,0,none⟩=some (.slice (some a) n0 c0)∧v.cell? ⟨w.heap.size+1,0,none⟩=some (.slice (some b) n0 d0)∧(v.cell? (a.add (k*4))=some (.int .i64 f1)∧v.cell? ⟨(a.add (k*4)).block,(a.add (k*4)).off+1,none⟩=some (.int .i64 f2)∧v.cell? ⟨(a.add (k*4)).block,(a.add (k*4)).off+2,none⟩=some (.slice P0 f3 e0)∧v.cell? ⟨(a.add (k*4)).block,(a.add (k*4)).off+3,none⟩=some (.slice P1 f4 e1))∧v.cell? (b.add (k*4))=some (.int .i64 p1)∧v.cell? ⟨(b.add (k*4)).block,(b.add (k*4)).off+1,none⟩=some (.int .i64 p2)∧v.cell? ⟨(b.add (k*4)).block,(b.add (k*4)).off+2,none⟩=some (.slice Q0 p3 o0)∧v.cell? ⟨(b.add (k*4)).block,(b.add (k*4)).off+3,none⟩=some (.slice Q1 p4 o1)):=fun v hv=>by
     have e:∀q u,wf.cell? q=some u→q.block<W.heap.size→v.cell? q=some u:=fun q u h1 h2=>(qAW (hv _ h2)).trans h1
     obtain⟨s1,s2,⟨s3,s4,s5,s6⟩,s7,s8,s9,s10⟩:=HSS.out wf HBf.out
     have ha:a.block<W.heap.size:=qAa hab HBW.out.size
     have hb:b.block<W.heap.size:=qAa hbb HBW.out.size
     exact⟨e _ _ s1 zX,e _ _ s2 hsW,⟨e _ _ s3 (by rw[qAz];exact ha),e _ _ s4 (by show(a.add _).block<_;rw[qAz];exact ha),e _ _ s5 (by show(a.add _).block<_;rw[qAz];exact ha),e _ _ s6 (by show(a.add _).block<_;rw[qAz];exact ha)⟩,e _ _ s7 (by rw[qAz];exact hb),e _ _ s8 (by show(b.add _).block<_;rw[qAz];exact hb),e _ _ s9 (by show(b.add _).block<_;rw[qAz];exact hb),e _ _ s10 (by show(b.add _).block<_;rw[qAz];exact hb)⟩
    have hDr:∀(v:World) (b:Nat),v.drew.heap[b]? =v.heap[b]? :=fun _ _=>rfl
    have hSt:∀(v:World) (b b' i:Nat) (u:Value),b≠b'→(v.setCell ⟨b',i,none⟩ u).heap[b]? =v.heap[b]? :=fun v b b' i u h=>qAd _ _ _ _ h
    have hAl:∀(v:World) (o:Obj) (b:Nat),b<v.heap.size→(v.alloc o).heap[b]? =v.heap[b]? :=fun v o b h=>qA8 v o b h
    clear x0 x1 x2 x3 x4 x5 x6 u0 u1 u2 u3 u4 u5 u6
    go_region_held3 (fun v=>v.cell? ⟨w.heap.size,0,none⟩=some (.slice (some a) n0 c0)∧v.cell? ⟨w.heap.size+1,0,none⟩=some (.slice (some b) n0 d0)∧(v.cell? (a.add (k*4))=some (.int .i64 f1)∧v.cell? ⟨(a.add (k*4)).block,(a.add (k*4)).off+1,none⟩=some (.int .i64 f2)∧v.cell? ⟨(a.add (k*4)).block,(a.add (k*4)).off+2,none⟩=some (.slice P0 f3 e0)∧v.cell? ⟨(a.add (k*4)).block,(a.add (k*4)).off+3,none⟩=some (.slice P1 f4 e1))∧v.cell? (b.add (k*4))=some (.int .i64 p1)∧v.cell? ⟨(b.add (k*4)).block,(b.add (k*4)).off+1,none⟩=some (.int .i64 p2)∧v.cell? ⟨(b.add (k*4)).block,(b.add (k*4)).off+2,none⟩=some (.slice Q0 p3 o0)∧v.cell? ⟨(b.add (k*4)).block,(b.add (k*4)).off+3,none⟩=some (.slice Q1 p4 o1))
     (first|exact HSS.out _ HBf.out.drew|(refine HLV.out _ fun b hb=> ?_;repeat(first|with_reducible exact rfl|(with_reducible refine(hDr _ _).trans ?_)|((with_reducible refine(hSt _ _ _ _ _ ?_).trans ?_);(first|omega|(simp;omega)))|((with_reducible refine(hAl _ _ _ ?_).trans ?_);(first|omega|(simp[World.setCell];omega))))))
     (fail)
    · skip
      go_upto_region 7 with(fail)
      refine qAj fun X hX=> ?_
      have HBX:Hid (Below W.heap.size W X):=by show Below _ _ _;rw[hX];exact((HBf.out.alloc HBf.out.size _).alloc (by have:=HBf.out.size;first|omega|(simp;omega)) _).drew
      have HCF:Hid (C4 (wf.heap.size) (.int .i64 f1) (.int .i64 f2) (.slice P0 f3 e0) (.slice P1 f4 e1) X∧C4 (wf.heap.size+1) (.int .i64 p1) (.int .i64 p2) (.slice Q0 p3 o0) (.slice Q1 p4 o1) X∧wf.heap.size+1<X.heap.size):=by show _∧_∧_;rw[hX];exact⟨by simp[C4,go_sem],by simp[C4,go_sem],by simp⟩
      clear hX
      have HCX:Hid (∀v,Below X.heap.size X v→C4 (wf.heap.size) (.int .i64 f1) (.int .i64 f2) (.slice P0 f3 e0) (.slice P1 f4 e1) v∧C4 (wf.heap.size+1) (.int .i64 p1) (.int .i64 p2) (.slice Q0 p3 o0) (.slice Q1 p4 o1) v):=fun v hb=>⟨HCF.out.1.below hb (by have:=HCF.out.2.2;omega),HCF.out.2.1.below hb (by have:=HCF.out.2.2;omega)⟩
      exact qN
    · skip
      go_upto_region 7 with(fail)
      refine qAj fun X hX=> ?_
      have HBX:Hid (Below W.heap.size W X):=by show Below _ _ _;rw[hX];exact((HBf.out.alloc HBf.out.size _).alloc (by have:=HBf.out.size;first|omega|(simp;omega)) _).drew
      have HCF:Hid (C4 (wf.heap.size+1) (.int .i64 f1) (.int .i64 f2) (.slice P0 f3 e0) (.slice P1 f4 e1) X∧C4 (wf.heap.size) (.int .i64 p1) (.int .i64 p2) (.slice Q0 p3 o0) (.slice Q1 p4 o1) X∧wf.heap.size+1<X.heap.size):=by show _∧_∧_;rw[hX];exact⟨by simp[C4,go_sem],by simp[C4,go_sem],by simp⟩
      clear hX
      have HCX:Hid (∀v,Below X.heap.size X v→C4 (wf.heap.size+1) (.int .i64 f1) (.int .i64 f2) (.slice P0 f3 e0) (.slice P1 f4 e1) v∧C4 (wf.heap.size) (.int .i64 p1) (.int .i64 p2) (.slice Q0 p3 o0) (.slice Q1 p4 o1) v):=fun v hb=>⟨HCF.out.1.below hb (by have:=HCF.out.2.2;omega),HCF.out.2.1.below hb (by have:=HCF.out.2.2;omega)⟩
      exact qN
  · obtain rfl:n0=k:=by omega
    have HFE:Hid (eqB fx fy=true):=by
     have e:=HEQ.out
     rw[qAi (by rw[HN0.out];exact qAZ _),qAi (by rw[HM0.out];exact qAZ _)] at e
     show _=_
     rw[e,qB4]
    cases b1
    all_goals
     go_wp2_with (first
      |(go_at_call 23
        (with_reducible refine(T1.out _ ?_).mono ?_)
        · exact HBB.out _ HBf.out
        rintro e z1 ⟨rfl,hz1⟩
        have HZ1:=qAU (HBf.out.trans (hz1.mono HBf.out.size))
        obtain⟨⟨x0,x1,x2,x3,x4,x5,x6⟩,u0,u1,u2,u3,u4,u5,u6⟩:=HCV.out z1 HZ1.out
        clear hz1)
      |(go_at_call 24
        (with_reducible refine(T2.out _ ?_).mono ?_)
        · exact HBB.out _ HZ1.out
        rintro e z2 ⟨rfl,hz2⟩
        have HZ2:=qAU (HZ1.out.trans (hz2.mono HZ1.out.size))
        clear hz2))
     go_ret
     first|exact⟨by rw[HE2.out,HFE.out];simp,HBB.out _ HZ2.out⟩|exact⟨by rw[HE2.out,HFE.out];simp,HBB.out _ HZ1.out⟩
theorem qGr (cs:List Value) (m:Mod) (fn:Fn) (fs:List Fn) (q:Int) (w:World) (h:modL.R (·<w.heap.size) w cs m) (hf:m.funcs=fn::fs) (hn:fn.locs.length≤1000) (hq:I64 q):
 Calls Tryz.prog 12 #[vAgg cs,.int .i64 q] w fun e w'=>∃cs',e= .returned (vAgg cs')∧stL.R (·<w'.heap.size) w' cs' (beginS fn.locs.length q)∧Below w.heap.size w w':=by
 obtain⟨A0,A1,A2,A3,A4,n0,n1,n2,n3,n4,d0,d1,d2,d3,d4,rfl⟩:=qB8 h
 obtain⟨a,P,c,rfl,hn1,hab,k3⟩:=qEO h hf
 obtain⟨nl,hnl⟩:∃x,fn.locs.length=x:=⟨_,rfl⟩
 rw[hnl] at k3 hn⊢
 have M1:=qDI nl hn
 have M2:=qHU
 have M3:=run_st2
 have hn1i:(0:Int)<(n1:Int):=by omega
 have HK3:=qAU k3
 have HQ:=qAU hq
 show Calls Tryz.prog 12 #[.agg #[.slice A0 n0 d0,.slice (some a) n1 d1,.slice A2 n2 d2,.slice A3 n3 d3,.slice A4 n4 d4],.int .i64 q] w fun e w'=>∃cs',e= .returned (vAgg cs')∧stL.R (·<w'.heap.size) w' cs' (beginS nl q)∧Below w.heap.size w w'
 obtain⟨N,hN⟩:∃N,w.heap.size=N:=⟨_,rfl⟩
 clear h hf k3 hnl hq
 go_enter Tryz.func12,Tryz.ntmps12
 go_upto_region 1 with(fail)
 refine qAj fun W hW=> ?_
 have HB0:Hid (Below w.heap.size w W):=by show Below _ _ _;rw[hW];exact((qAb _ _).alloc (qAZ _) _).alloc (by simp) _
 have HK0:Hid (Blk W N 28 #[.slice A0 n0 d0,.slice (some a) n1 d1,.slice A2 n2 d2,.slice A3 n3 d3,.slice A4 n4 d4]):=by show Blk _ _ _ _;rw[hW];exact qAV (qAh hN)
 have HK1:Hid (Blk W (N+1) 36 #[.slice none 0 0,.slice none 0 0,.slice none 0 0,.int .i64 0,.int .i64 0,.int .i64 0,.int .u64 0]):=by show Blk _ _ _ _;rw[hW];exact qAh qg
 have hsW:W.heap.size=N+2:=by rw[hW];simp;omega
 clear hW
 have y1:=HK0.out.cell 1
 have x3:=qDa HK3.out HB0.out
 have HKR:Hid (Blk W (N+1) 36 #[.slice none 0 0,.slice none 0 0,.slice none 0 0,.int .i64 0,.int .i64 0,.int .i64 0,.int .u64 0]):=HK1
 have r0:∀(o o':Obj),((W.alloc o).alloc o').cell? ⟨N+1,0,none⟩=some (.slice none 0 0):=fun o o'=>(qAV (o:=o') (qAV (o:=o) HKR.out)).cell 0
 have f0:∀(o o':Obj),((W.alloc o).alloc o').frozen? ⟨N+1,0,none⟩=false:=fun o o'=>(qAV (o:=o') (qAV (o:=o) HKR.out)).frozen 0
 have r1:∀(v0:Value) (o o':Obj),(((W.setCell ⟨N+1,0,none⟩ v0).alloc o).alloc o').cell? ⟨N+1,1,none⟩=some (.slice none 0 0):=fun v0 o o'=>(qAV (o:=o') (qAV (o:=o) (HKR.out.set 0 v0))).cell 1
 have f1:∀(v0:Value) (o o':Obj),(((W.setCell ⟨N+1,0,none⟩ v0).alloc o).alloc o').frozen? ⟨N+1,1,none⟩=false:=fun v0 o o'=>(qAV (o:=o') (qAV (o:=o) (HKR.out.set 0 v0))).frozen 1
 have r2:∀(v0 v1:Value) (o o':Obj),((((W.setCell ⟨N+1,0,none⟩ v0).setCell ⟨N+1,1,none⟩ v1).alloc o).alloc o').cell? ⟨N+1,2,none⟩=some (.slice none 0 0):=fun v0 v1 o o'=>(qAV (o:=o') (qAV (o:=o) ((HKR.out.set 0 v0).set 1 v1))).cell 2
 have f2:∀(v0 v1:Value) (o o':Obj),((((W.setCell ⟨N+1,0,none⟩ v0).setCell ⟨N+1,1,none⟩ v1).alloc o).alloc o').frozen? ⟨N+1,2,none⟩=false:=fun v0 v1 o o'=>(qAV (o:=o') (qAV (o:=o) ((HKR.out.set 0 v0).set 1 v1))).frozen 2
 have r3:∀(v0 v1 v2:Value) (o o':Obj),(((((W.setCell ⟨N+1,0,none⟩ v0).setCell ⟨N+1,1,none⟩ v1).setCell ⟨N+1,2,none⟩ v2).alloc o).alloc o').cell? ⟨N+1,3,none⟩=some (.int .i64 0):=fun v0 v1 v2 o o'=>(qAV (o:=o') (qAV (o:=o) (((HKR.out.set 0 v0).set 1 v1).set 2 v2))).cell 3
 have f3:∀(v0 v1 v2:Value) (o o':Obj),(((((W.setCell ⟨N+1,0,none⟩ v0).setCell ⟨N+1,1,none⟩ v1).setCell ⟨N+1,2,none⟩ v2).alloc o).alloc o').frozen? ⟨N+1,3,none⟩=false:=fun v0 v1 v2 o o'=>(qAV (o:=o') (qAV (o:=o) (((HKR.out.set 0 v0).set 1 v1).set 2 v2))).frozen 3
 have r4:∀(v0 v1 v2 v3:Value) (o o':Obj),((((((W.setCell ⟨N+1,0,none⟩ v0).setCell ⟨N+1,1,none⟩ v1).setCell ⟨N+1,2,none⟩ v2).setCell ⟨N+1,3,none⟩ v3).alloc o).alloc o').cell? ⟨N+1,4,none⟩=some (.int .i64 0):=fun v0 v1 v2 v3 o o'=>(qAV (o:=o') (qAV (o:=o) ((((HKR.out.set 0 v0).set 1 v1).set 2 v2).set 3 v3))).cell 4
 have f4:∀(v0 v1 v2 v3:Value) (o o':Obj),((((((W.setCell ⟨N+1,0,none⟩ v0).setCell ⟨N+1,1,none⟩ v1).setCell ⟨N+1,2,none⟩ v2).setCell ⟨N+1,3,none⟩ v3).alloc o).alloc o').frozen? ⟨N+1,4,none⟩=false:=fun v0 v1 v2 v3 o o'=>(qAV (o:=o') (qAV (o:=o) ((((HKR.out.set 0 v0).set 1 v1).set 2 v2).set 3 v3))).frozen 4
 have r5:∀(v0 v1 v2 v3 v4:Value) (o o':Obj),(((((((W.setCell ⟨N+1,0,none⟩ v0).setCell ⟨N+1,1,none⟩ v1).setCell ⟨N+1,2,none⟩ v2).setCell ⟨N+1,3,none⟩ v3).setCell ⟨N+1,4,none⟩ v4).alloc o).alloc o').cell? ⟨N+1,5,none⟩=some (.int .i64 0):=fun v0 v1 v2 v3 v4 o o'=>(qAV (o:=o') (qAV (o:=o) (((((HKR.out.set 0 v0).set 1 v1).set 2 v2).set 3 v3).set 4 v4))).cell 5
 have f5:∀(v0 v1 v2 v3 v4:Value) (o o':Obj),(((((((W.setCell ⟨N+1,0,none⟩ v0).setCell ⟨N+1,1,none⟩ v1).setCell ⟨N+1,2,none⟩ v2).setCell ⟨N+1,3,none⟩ v3).setCell ⟨N+1,4,none⟩ v4).alloc o).alloc o').frozen? ⟨N+1,5,none⟩=false:=fun v0 v1 v2 v3 v4 o o'=>(qAV (o:=o') (qAV (o:=o) (((((HKR.out.set 0 v0).set 1 v1).set 2 v2).set 3 v3).set 4 v4))).frozen 5
 have r6:∀(v0 v1 v2 v3 v4 v5:Value) (o o':Obj),((((((((W.setCell ⟨N+1,0,none⟩ v0).setCell ⟨N+1,1,none⟩ v1).setCell ⟨N+1,2,none⟩ v2).setCell ⟨N+1,3,none⟩ v3).setCell ⟨N+1,4,none⟩ v4).setCell ⟨N+1,5,none⟩ v5).alloc o).alloc o').cell? ⟨N+1,6,none⟩=some (.int .u64 0):=fun v0 v1 v2 v3 v4 v5 o o'=>(qAV (o:=o') (qAV (o:=o) ((((((HKR.out.set 0 v0).set 1 v1).set 2 v2).set 3 v3).set 4 v4).set 5 v5))).cell 6
 have f6:∀(v0 v1 v2 v3 v4 v5:Value) (o o':Obj),((((((((W.setCell ⟨N+1,0,none⟩ v0).setCell ⟨N+1,1,none⟩ v1).setCell ⟨N+1,2,none⟩ v2).setCell ⟨N+1,3,none⟩ v3).setCell ⟨N+1,4,none⟩ v4).setCell ⟨N+1,5,none⟩ v5).alloc o).alloc o').frozen? ⟨N+1,6,none⟩=false:=fun v0 v1 v2 v3 v4 v5 o o'=>(qAV (o:=o') (qAV (o:=o) ((((((HKR.out.set 0 v0).set 1 v1).set 2 v2).set 3 v3).set 4 v4).set 5 v5))).frozen 6
 have hR:∀o o':Obj,Blk (((((((((W.setCell ⟨N+1,0,none⟩ (.slice (some ⟨N+2+1,0,none⟩) 1 1)).setCell ⟨N+1,1,none⟩ (.slice none 0 0)).setCell ⟨N+1,2,none⟩ (.slice none 0 0)).setCell ⟨N+1,3,none⟩ (.int .i64 q)).setCell ⟨N+1,4,none⟩ (.int .i64 0)).setCell ⟨N+1,5,none⟩ (.int .i64 0)).setCell ⟨N+1,6,none⟩ (.int .u64 0)).alloc o).alloc o') (N+1) 36 #[.slice (some ⟨N+2+1,0,none⟩) 1 1,.slice none 0 0,.slice none 0 0,.int .i64 q,.int .i64 0,.int .i64 0,.int .u64 0]:=fun o o'=>qAV (qAV (((((((HKR.out.set 0 (.slice (some ⟨N+2+1,0,none⟩) 1 1)).set 1 (.slice none 0 0)).set 2 (.slice none 0 0)).set 3 (.int .i64 q)).set 4 (.int .i64 0)).set 5 (.int .i64 0)).set 6 (.int .u64 0)))
 have g0:=fun o o'=>(hR o o').cell 0
 have g1:=fun o o'=>(hR o o').cell 1
 have g2:=fun o o'=>(hR o o').cell 2
 have g3:=fun o o'=>(hR o o').cell 3
 have g4:=fun o o'=>(hR o o').cell 4
 have g5:=fun o o'=>(hR o o').cell 5
 have g6:=fun o o'=>(hR o o').cell 6
 have hs7:(((((((W.setCell ⟨N+1,0,none⟩ (.slice (some ⟨N+2+1,0,none⟩) 1 1)).setCell ⟨N+1,1,none⟩ (.slice none 0 0)).setCell ⟨N+1,2,none⟩ (.slice none 0 0)).setCell ⟨N+1,3,none⟩ (.int .i64 q)).setCell ⟨N+1,4,none⟩ (.int .i64 0)).setCell ⟨N+1,5,none⟩ (.int .i64 0)).setCell ⟨N+1,6,none⟩ (.int .u64 0)).heap.size=N+2:=by simp[World.setCell];omega
 have HB7:Hid (Below w.heap.size w (((((((W.setCell ⟨N+1,0,none⟩ (.slice (some ⟨N+2+1,0,none⟩) 1 1)).setCell ⟨N+1,1,none⟩ (.slice none 0 0)).setCell ⟨N+1,2,none⟩ (.slice none 0 0)).setCell ⟨N+1,3,none⟩ (.int .i64 q)).setCell ⟨N+1,4,none⟩ (.int .i64 0)).setCell ⟨N+1,5,none⟩ (.int .i64 0)).setCell ⟨N+1,6,none⟩ (.int .u64 0))):=by
  show Below _ _ _
  have hb:=HB0.out
  repeat(first|with_reducible exact hb|refine Below.setCell ?_ (by show w.heap.size≤N+1;omega) _)
 have HS7:=qAU hs7
 clear hR hs7
 go_wp2_with fail
 refine bodyPost_ret (v:= .agg #[.slice (some ⟨N+2+1,0,none⟩) 1 1,.slice none 0 0,.slice none 0 0,.int .i64 q,.int .i64 0,.int .i64 0,.int .u64 0]) (by simp[results,Tryz.results12,go_sem,hsW,g0,g1,g2,g3,g4,g5,g6]) rfl ⟨[.slice (some ⟨N+2+1,0,none⟩) 1 1,.slice none 0 0,.slice none 0 0,.int .i64 q,.int .i64 0,.int .i64 0,.int .u64 0],rfl,?_,?_⟩
 · refine qEV (S1:=N+2) (qAV (qAh HS7.out)) (qAh ?_) hn HQ.out
   have:=HS7.out
   simp only[World.size_alloc]
   omega
 · exact(HB7.out.alloc (by have:=HB7.out.size;omega) _).alloc (by have:=HB7.out.size;simp;omega) _
end Go.Proofs.YtconajaecpgjgaaGreat
