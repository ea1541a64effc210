/-
Rwd Rob Rha Rst Ops Opz Oob Ohn Ogs
-/
import Derived.Test.YtconajaecpgjgaaQ01
import Derived.Test.YtconajaecpgjgaaQ02
import Derived.Test.YtconajaecpgjgaaQ05
import Derived.Test.YtconajaecpgjgaaQ13
import Derived.BigQuiet
import Derived.Laws.Strings
import Derived.Deep.RegionHeld3
import Derived.Deep.DeepCutAuto
import Derived.Deep.SlicePairs
import Derived.SizedLaws
set_option linter.unusedSimpArgs false
set_option linter.unusedVariables false
set_option maxRecDepth 100000
set_option maxHeartbeats 4000000
namespace Go.Proofs.Ytconajaecpgjgaa
open Go.RowKit
theorem qE {P:Prop} (h:P:=by
 obtain⟨⟨v0,v1,v2,v3⟩,w0,w1,w2,w3⟩:=HCX.out X (zS _ _)
 by_cases g1:f1=p1
 rotate_left
 · have t0:(f1 != p1)=true:=by simpa using g1
   have HG:=zL (HNO.out (by simp[g1]))
   clear g1
   go_wp2_with fail
   go_ret
   exact⟨by rw[HG.out];rfl,HBB.out _ HBX.out⟩
 subst g1
 by_cases g2:f2=p2
 rotate_left
 · have t0:(f2 != p2)=true:=by simpa using g2
   have HG:=zL (HNO.out (by simp[g2]))
   clear g2
   go_wp2_with fail
   go_ret
   exact⟨by rw[HG.out];rfl,HBB.out _ HBX.out⟩
 subst g2
 cases bl
 · have HG:=zL (HNO.out (by simp))
   go_wp2_with (first
    |(go_at_call 21
      (with_reducible refine(HWA.out _ ?_).mono ?_)
      · exact HBB.out _ HBX.out
      rintro e z1 ⟨rfl,hz1⟩
      obtain⟨⟨v0,v1,v2,v3⟩,w0,w1,w2,w3⟩:=HCX.out z1 hz1
      have HZ1:=zL (HBX.out.trans (hz1.mono HBX.out.size))
      clear hz1)
    |(go_at_call 21
      (with_reducible refine(HWB.out _ ?_).mono ?_)
      · exact HBB.out _ HZ1.out
      rintro e z2 ⟨rfl,hz2⟩
      have HZ2:=zL (HZ1.out.trans (hz2.mono HZ1.out.size))
      clear hz2))
   go_ret
   exact⟨by rw[HG.out];rfl,HBB.out _ HZ1.out⟩
 cases bs
 · have HG:=zL (HNO.out (by simp))
   go_wp2_with (first
    |(go_at_call 21
      (with_reducible refine(HWA.out _ ?_).mono ?_)
      · exact HBB.out _ HBX.out
      rintro e z1 ⟨rfl,hz1⟩
      obtain⟨⟨v0,v1,v2,v3⟩,w0,w1,w2,w3⟩:=HCX.out z1 hz1
      have HZ1:=zL (HBX.out.trans (hz1.mono HBX.out.size))
      clear hz1)
    |(go_at_call 21
      (with_reducible refine(HWB.out _ ?_).mono ?_)
      · exact HBB.out _ HZ1.out
      rintro e z2 ⟨rfl,hz2⟩
      have HZ2:=zL (HZ1.out.trans (hz2.mono HZ1.out.size))
      clear hz2))
   go_ret
   exact⟨by rw[HG.out];rfl,HBB.out _ HZ2.out⟩
 have HY:=zL (HYES.out (by simp))
 go_wp2_with (first
  |(go_at_call 21
    (with_reducible refine(HWA.out _ ?_).mono ?_)
    · exact HBB.out _ HBX.out
    rintro e z1 ⟨rfl,hz1⟩
    obtain⟨⟨v0,v1,v2,v3⟩,w0,w1,w2,w3⟩:=HCX.out z1 hz1
    have HZ1:=zL (HBX.out.trans (hz1.mono HBX.out.size))
    clear hz1)
  |(go_at_call 21
    (with_reducible refine(HWB.out _ ?_).mono ?_)
    · exact HBB.out _ HZ1.out
    rintro e z2 ⟨rfl,hz2⟩
    have HZ2:=zL (HZ1.out.trans (hz2.mono HZ1.out.size))
    clear hz2))
 exact⟨⟨k+1,by omega,by simp,HY.out,HZ2.out⟩,by simp[intOf];omega⟩):P:=h
theorem qO {P:Prop} (h:P:=by
 go_wp2_with fail
 go_quiet (first|(go_at_call 21;exact HW.out _)|(go_at_call 28;exact HY.out _))
 go_wp2_with fail
 go_ret
 exact⟨by rw[decide_eq_false (jy HO.out HP.out (HN.out))];rfl,_,World.drewN_drewN _ _ _⟩):P:=h
theorem qS {P:Prop} (h:P:=by
 have HS1:=zL hS1
 have HY2:=zL hy2
 clear hy hy1 hS1
 go_wp2_with fail
 exact⟨⟨j+1,by omega,by simp,HTg.out.set HY2.out (by rw[zh];exact HS1.out.1) _⟩,by simp[intOf];omega⟩):P:=h
theorem qe {P:Prop} (h:P:=by
 go_enter Try.func9,Try.ntmps9
 go_wp2_with fail
 go_ret
 exact⟨by rw[HE.out];simp[b3],HB0.out⟩):P:=h
theorem qBM {P:Program} {f:FuncId} {args:Array Value} {w:World} {q r:Nat} {v:Value}
 (h:Calls P f args (w.drewN (q+r)) fun e w'=>e= .returned v∧∃m,w'=(w.drewN (q+r)).drewN m):Calls P f args (w.drewN (q+r)) fun e w''=>e= .returned v∧∃m,w''=w.drewN (q+m):=
 h.mono fun _ _ ⟨he,m,hm⟩=>⟨he,r+m,by rw[hm,World.drewN_drewN,Nat.add_assoc]⟩
theorem qCG {α:Type} {La:Lay α} {S:Nat→Prop} {w:World} {A:Option Addr} {xs:List α} (h:Sq La S w A xs) (q:Nat):Sq La S (w.drewN q) A xs:=h.keep fun _ _=>rfl
theorem jv (A B:Option Addr) (n m c d:Nat) (xs ys:List Nat) (w:World) (S T:Nat→Prop) (hl:xs.length=n) (hm:ys.length=m) (h:Sq numL S w A xs) (h':Sq numL T w B ys) (hn2:n≤9223372036854775807) (hm2:m≤9223372036854775807):
 Calls Try.prog 21 #[.slice A n c,.slice B m d] w fun e w'=>e= .returned (.bool (eqB xs ys))∧∃q,w'=w.drewN q:=by
 have HL:=zL hl
 have HM:=zL hm
 have HS:=zL h
 have HT:=zL h'
 clear hl hm h h'
 by_cases hnm:n=m
 · subst hnm
   go_enter Try.func21,Try.ntmps21
   go_wp2_with fail
   go_loopw [5] (fun i wr=>∃k q:Nat,k≤n∧i= .int .i64 (k:Nat)∧xs.take k=ys.take k∧wr=w.drewN q) (fun i _=>n-(intOf i).toNat)
   case atStart=>exact⟨0,0,zY _,rfl,by simp,rfl⟩
   case round=>
    exact qG
 · have h1:((n:Int) != (m:Int))=true:=by simp;omega
   have h2:(n != m)=true:=by simpa using hnm
   have HNM:=zL hnm
   clear hnm
   go_enter Try.func21,Try.ntmps21
   go_wp2_with fail
   go_ret
   refine⟨?_,0,rfl⟩
   exact ql
theorem qBi {S:Nat→Prop} {w:World} {A:Option Addr} {xs:List Nat} (h:Byt S w A xs) (q:Nat):Byt S (w.drewN q) A xs:=h.keep fun _ _=>rfl
theorem qCT (A B:Option Addr) (n m c d:Nat) (O O':List Ob) (w:World) (S T:Nat→Prop) (hl:O.length=n) (hm:O'.length=m) (hA:Sq obL S w A O) (hB:Sq obL T w B O') (hz:∀o∈O,o.small) (hz':∀o∈O',o.small) (hn:n≤1000000) (hn':m≤1000000):
 Calls Try.prog 22 #[.slice A n c,.slice B m d] w fun e w'=>e= .returned (.bool (decide (O=O')))∧∃q,w'=w.drewN q:=by
 have HL:=zL hl
 have HM:=zL hm
 have HA:=zL hA
 have HB:=zL hB
 have HZ:=zL hz
 have HZ':=zL hz'
 clear hA hB hl hm hz hz'
 by_cases hnm:n=m
 rotate_left
 · have h1:((n:Int) != (m:Int))=true:=by simp;omega
   have h2:(n != m)=true:=by simpa using hnm
   have HNM:=zL hnm
   clear hnm
   go_enter Try.func22,Try.ntmps22
   exact qm
 subst hnm
 go_enter Try.func22,Try.ntmps22
 go_wp2_with fail
 go_loopw [5] (fun i wr=>∃k q:Nat,k≤n∧i= .int .i64 (k:Nat)∧O.take k=O'.take k∧wr=w.drewN q) (fun i _=>n-(intOf i).toNat)
 case atStart=>exact⟨0,0,zY _,rfl,by simp,rfl⟩
 case round=>
  obtain⟨k,q,hk,rfl,heq,rfl⟩:=hrel
  have HE:=zL heq
  clear heq
  by_cases hlt:k<n
  · obtain⟨o,ho⟩:∃o,O[k]? =some o:=⟨O[k]'qR,zM _⟩
    obtain⟨p,hp⟩:∃o,O'[k]? =some o:=⟨O'[k]'(by rw[HM.out];exact hlt),zM _⟩
    have hsm:=HZ.out o (zT ho)
    have hsm':=HZ'.out p (zT hp)
    obtain⟨a,csa,ea,hab,hca,hRa⟩:=HA.out.at ho
    obtain⟨b,csb,eb,hbb,hcb,hRb⟩:=HB.out.at hp
    have HO:=zL ho
    have HP:=zL hp
    clear ho hp
    subst ea eb
    obtain⟨A0,c0,B0,d0,rfl,-,-,-,-,sA,yA,-,-,-⟩:=jH hRa
    obtain⟨A1,c1,B1,d1,rfl,-,-,-,-,sB,yB,-,-,-⟩:=jH hRb
    have ca0:w.cell? (a.add (k*4))=_:=hca 0 _ rfl
    have ca1:w.cell? (a.add (k*4+1))=_:=hca 1 _ rfl
    rw[zV a (k*4) 1 (by omega)] at ca1
    have ca2:w.cell? (a.add (k*4+2))=_:=hca 2 _ rfl
    rw[zV a (k*4) 2 (by omega)] at ca2
    have ca3:w.cell? (a.add (k*4+3))=_:=hca 3 _ rfl
    rw[zV a (k*4) 3 (by omega)] at ca3
    have cb0:w.cell? (b.add (k*4))=_:=hcb 0 _ rfl
    have cb1:w.cell? (b.add (k*4+1))=_:=hcb 1 _ rfl
    rw[zV b (k*4) 1 (by omega)] at cb1
    have cb2:w.cell? (b.add (k*4+2))=_:=hcb 2 _ rfl
    rw[zV b (k*4) 2 (by omega)] at cb2
    have cb3:w.cell? (b.add (k*4+3))=_:=hcb 3 _ rfl
    rw[zV b (k*4) 3 (by omega)] at cb3
    have k0:0≤(k:Int):=by omega
    have k1:(k:Int)<(n:Int):=by omega
    have HSA:=zL sA
    have HSB:=zL sB
    have HYA:=zL yA
    have HYB:=zL yB
    have HW:Hid (∀r,Calls Try.prog 21 #[.slice A0 o.words.length c0,.slice A1 p.words.length c1] (w.drewN (q+r)) fun e w''=>e= .returned (.bool (eqB o.words p.words))∧∃m,w''=w.drewN (q+m)):=fun r=>
     qBM (jv A0 A1 _ _ c0 c1 o.words p.words _ _ _ rfl rfl (qCG HSA.out _) (qCG HSB.out _) (by have:=hsm.1;omega) (by have:=hsm'.1;omega))
    have HY:Hid (∀r,Calls Try.prog 28 #[.slice B0 o.bytes.length d0,.slice B1 p.bytes.length d1] (w.drewN (q+r)) fun e w''=>e= .returned (.bool (sameB o.bytes p.bytes))∧∃m,w''=w.drewN (q+m)):=fun r=>
     qBM (qC6 B0 B1 d0 d1 o.bytes p.bytes _ _ _ (qBi HYA.out _) (qBi HYB.out _) (by have:=hsm.2;omega) (by have:=hsm'.2;omega))
    clear hca hcb hRa hRb sA yA sB yB hsm hsm'
    have HEQ:Hid (o.kind=p.kind→o.n=p.n→eqB o.words p.words=true→sameB o.bytes p.bytes=true→o=p):=fun h0 h1 h2 h3=>Ob.eq_of h0 h1 (jD.1 h2) (by simpa[sameB] using h3)
    have HN0:Hid (o.kind≠p.kind→o≠p):=fun h e=>h (by rw[e])
    have HN1:Hid (o.n≠p.n→o≠p):=fun h e=>h (by rw[e])
    have HN2:Hid (eqB o.words p.words=false→o≠p):=fun h e=>(by rw[e,z9] at h;cases h)
    have HN3:Hid (sameB o.bytes p.bytes=false→o≠p):=fun h e=>(by rw[e] at h;simp[sameB] at h)
    generalize eqB o.words p.words=bw at*
    generalize sameB o.bytes p.bytes=bb at*
    generalize o.kind=kk at*
    generalize o.n=nn at*
    generalize o.words.length=pp at*
    generalize o.bytes.length=qq at*
    generalize p.kind=kk' at*
    generalize p.n=nn' at*
    generalize p.words.length=pp' at*
    generalize p.bytes.length=qq' at*
    by_cases g0:kk=kk'
    rotate_left
    · have HN:=zL (HN0.out g0)
      have t0:(kk != kk')=true:=by simpa using g0
      clear g0
      exact qO
    subst g0
    have tg0:(kk != kk)=false:=by simp
    by_cases g1:nn=nn'
    rotate_left
    · have HN:=zL (HN1.out g1)
      have t0:(nn != nn')=true:=by simpa using g1
      clear g1
      exact qO
    subst g1
    have tg1:(nn != nn)=false:=by simp
    cases bw
    · have HN:=zL (HN2.out rfl)
      exact qO
    cases bb
    · have HN:=zL (HN3.out rfl)
      exact qO
    · have HN:=zL (HEQ.out rfl rfl rfl rfl)
      go_wp2_with fail
      go_quiet (first|(go_at_call 21;exact HW.out _)|(go_at_call 28;exact HY.out _))
      go_wp2_with fail
      exact⟨⟨k+1,_,by omega,by simp,jG HE.out HO.out HP.out HN.out,rfl⟩,by simp[intOf];omega⟩
  · obtain rfl:k=n:=by omega
    go_wp2_with fail
    go_ret
    refine⟨?_,_,rfl⟩
    have e:=HE.out
    rw[zU qQ,zU (by rw[HM.out];exact zQ _)] at e
    rw[decide_eq_true e]
    rfl
theorem qCU (A B:Option Addr) (n m c d:Nat) (xs ys:List Hnd) (w:World) (S T:Nat→Prop) (hl:xs.length=n) (hm:ys.length=m) (h:Sq hdL S w A xs) (h':Sq hdL T w B ys) (hn2:n≤9223372036854775807) (hm2:m≤9223372036854775807):
 Calls Try.prog 23 #[.slice A n c,.slice B m d] w fun e w'=>e= .returned (.bool (decide (xs=ys)))∧∃q,w'=w.drewN q:=by
 have HL:=zL hl
 have HM:=zL hm
 have HS:=zL h
 have HT:=zL h'
 clear hl hm h h'
 by_cases hnm:n=m
 · subst hnm
   go_enter Try.func23,Try.ntmps23
   go_wp2_with fail
   go_loopw [5] (fun i wr=>∃k q:Nat,k≤n∧i= .int .i64 (k:Nat)∧xs.take k=ys.take k∧wr=w.drewN q) (fun i _=>n-(intOf i).toNat)
   case atStart=>exact⟨0,0,zY _,rfl,by simp,rfl⟩
   case round=>
    exact qC
 · have h1:((n:Int) != (m:Int))=true:=by simp;omega
   have h2:(n != m)=true:=by simpa using hnm
   have HNM:=zL hnm
   clear hnm
   go_enter Try.func23,Try.ntmps23
   exact qm
theorem ji (cs cs2:List Value) (x y:Stt) (w:World) (h:stL.R (·<w.heap.size) w cs x) (h':stL.R (·<w.heap.size) w cs2 y) (hx:x.low) (hy:y.low):Calls Try.prog 9 #[vAgg cs,vAgg cs2] w (Tells (eqB x y) w):=by
 obtain⟨A0,c0,A1,c1,A2,c2,rfl,k0a,k0,k1a,k1,k2a,k2,s0,s1,s2,-,-,-,-⟩:=zu h
 obtain⟨B0,d0,B1,d1,B2,d2,rfl,l0a,l0,l1a,l1,l2a,l2,t0,t1,t2,-,-,-,-⟩:=zu h'
 obtain⟨z1,z2,z3,z4,z5⟩:=hx
 obtain⟨y1,y2,y3,y4,y5⟩:=hy
 have T1:Hid (∀w1,Below w.heap.size w w1→Calls Try.prog 22 #[.slice A1 x.hp.length c1,.slice B1 y.hp.length d1] w1 (Tells (eqB x.hp y.hp) w1)):=fun w1 hb=>(qCT A1 B1 _ _ c1 d1 x.hp y.hp w1 _ _ rfl rfl (zk s1 hb) (zk t1 hb) z5 y5 (by omega) (by omega)).mono fun e w2 h=>⟨by rw[h.1,qAm],by obtain⟨q,rfl⟩:=h.2;exact zm _ _⟩
 have T2:Hid (∀w1,Below w.heap.size w w1→Calls Try.prog 23 #[.slice A2 x.hn.length c2,.slice B2 y.hn.length d2] w1 (Tells (eqB x.hn y.hn) w1)):=fun w1 hb=>(qCU A2 B2 _ _ c2 d2 x.hn y.hn w1 _ _ rfl rfl (zk s2 hb) (zk t2 hb) (by omega) (by omega)).mono fun e w2 h=>⟨by rw[h.1,qAm],by obtain⟨q,rfl⟩:=h.2;exact zm _ _⟩
 have HS0:Hid (Sq frL (·<w.heap.size) w A0 x.fr):=s0
 have HT0:Hid (Sq frL (·<w.heap.size) w B0 y.fr):=t0
 have HZ4:=zL z4
 have HY4:=zL y4
 show Calls Try.prog 9 #[.agg #[.slice A0 x.fr.length c0,.slice A1 x.hp.length c1,.slice A2 x.hn.length c2,.int .i64 x.quota,.int .i64 x.used,.int .i64 x.fin,.int .u64 (x.val:Int)],.agg #[.slice B0 y.fr.length d0,.slice B1 y.hp.length d1,.slice B2 y.hn.length d2,.int .i64 y.quota,.int .i64 y.used,.int .i64 y.fin,.int .u64 (y.val:Int)]] w (Tells (eqB x y) w)
 have HE:Hid (eqB x y=(decide (x.quota=y.quota) && decide (x.used=y.used) && decide (x.fin=y.fin) && decide ((x.val:Int)=(y.val:Int)) && eqB x.fr y.fr && eqB x.hp y.hp && eqB x.hn y.hn)):=by
  show _=_
  rw[qCL,show decide (x.val=y.val)=decide ((x.val:Int)=(y.val:Int)) by rw[Bool.eq_iff_iff];simp;omega]
 have HLX:Hid (x.fr.length=x.fr.length):=rfl
 obtain⟨n0,hn0⟩:∃z,x.fr.length=z:=⟨_,rfl⟩
 obtain⟨m0,hm0⟩:∃z,y.fr.length=z:=⟨_,rfl⟩
 have HN0:=zL hn0
 have HM0:=zL hm0
 rw[hn0,hm0]
 rw[hn0] at z1
 clear k0a k0 k1a k1 k2a k2 s0 s1 s2 l0a l0 l1a l1 l2a l2 t0 t1 t2 h h' z2 z3 z4 z5 y1 y2 y3 y4 y5 hn0 hm0 HLX
 generalize eqB x y=g at*
 generalize x.hp.length=n1 at*
 generalize y.hp.length=m1 at*
 generalize x.hn.length=n2 at*
 generalize y.hn.length=m2 at*
 generalize eqB x.hp y.hp=b1 at*
 generalize eqB x.hn y.hn=b2 at*
 generalize x.quota=q1 at*
 generalize x.used=q2 at*
 generalize x.fin=q3 at*
 generalize (x.val:Int)=q4 at*
 generalize y.quota=r1 at*
 generalize y.used=r2 at*
 generalize y.fin=r3 at*
 generalize (y.val:Int)=r4 at*
 generalize x.fr=fx at*
 generalize y.fr=fy at*
 have HB0:Hid (Below w.heap.size w ((w.alloc (.cells #[.slice A0 n0 c0,.slice A1 n1 c1,.slice A2 n2 c2,.int .i64 q1,.int .i64 q2,.int .i64 q3,.int .u64 q4] 27)).alloc (.cells #[.slice B0 m0 d0,.slice B1 m1 d1,.slice B2 m2 d2,.int .i64 r1,.int .i64 r2,.int .i64 r3,.int .u64 r4] 27))):=((zS _ _).alloc (zQ _) _).alloc (by simp) _
 by_cases e0:n0=m0
 rotate_left
 · have HF:Hid (eqB fx fy=false):=jz fun e=>e0 (by rw[←HN0.out,←HM0.out,e])
   have t0:((n0:Int) != (m0:Int))=true:=by simp;omega
   have t1:(n0 != m0)=true:=by simpa using e0
   clear e0
   go_enter Try.func9,Try.ntmps9
   go_wp2_with fail
   go_ret
   exact⟨by rw[HE.out,HF.out];simp,HB0.out⟩
 subst e0
 by_cases g1:q1=r1
 rotate_left
 · have b2:(q1 != r1)=true:=by simpa using g1
   have b3:decide (q1=r1)=false:=by simpa using g1
   clear g1
   exact qe
 subst g1
 by_cases g2:q2=r2
 rotate_left
 · have b2:(q2 != r2)=true:=by simpa using g2
   have b3:decide (q2=r2)=false:=by simpa using g2
   clear g2
   exact qe
 subst g2
 by_cases g3:q3=r3
 rotate_left
 · have b2:(q3 != r3)=true:=by simpa using g3
   have b3:decide (q3=r3)=false:=by simpa using g3
   clear g3
   exact qe
 subst g3
 by_cases g4:q4=r4
 rotate_left
 · have b2:(q4 != r4)=true:=by simpa using g4
   have b3:decide (q4=r4)=false:=by simpa using g4
   clear g4
   exact qe
 subst g4
 have HE2:Hid (g=(eqB fx fy && b1 && b2)):=by show _=_;rw[HE.out];simp
 clear HE HB0
 go_enter Try.func9,Try.ntmps9
 go_upto_region 1 with(fail)
 refine zi fun W hW=> ?_
 have HBW:Hid (Below w.heap.size w W):=by show Below _ _ _;rw[hW];exact((zS _ _).alloc (zQ _) _).alloc (by simp) _
 have HCW:Hid (C7 w.heap.size (.slice A0 n0 c0) (.slice A1 n1 c1) (.slice A2 n2 c2) (.int .i64 q1) (.int .i64 q2) (.int .i64 q3) (.int .u64 q4) W∧C7 (w.heap.size+1) (.slice B0 n0 d0) (.slice B1 m1 d1) (.slice B2 m2 d2) (.int .i64 q1) (.int .i64 q2) (.int .i64 q3) (.int .u64 q4) W):=by show _∧_;rw[hW];exact⟨by simp[C7,go_sem],by simp[C7,go_sem]⟩
 have hsW:w.heap.size+1<W.heap.size:=by rw[hW];simp
 clear hW
 have HCV:Hid (∀v,Below W.heap.size W v→C7 w.heap.size (.slice A0 n0 c0) (.slice A1 n1 c1) (.slice A2 n2 c2) (.int .i64 q1) (.int .i64 q2) (.int .i64 q3) (.int .u64 q4) v∧C7 (w.heap.size+1) (.slice B0 n0 d0) (.slice B1 m1 d1) (.slice B2 m2 d2) (.int .i64 q1) (.int .i64 q2) (.int .i64 q3) (.int .u64 q4) v):=fun v hb=>⟨HCW.out.1.below hb (by omega),HCW.out.2.below hb hsW⟩
 have HBB:Hid (∀v,Below W.heap.size W v→Below w.heap.size w v):=fun v hb=>HBW.out.trans (hb.mono HBW.out.size)
 obtain⟨⟨x0,x1,x2,x3,x4,x5,x6⟩,u0,u1,u2,u3,u4,u5,u6⟩:=HCW.out
 go_upto_region 4 with(fail)
 clear x0 x1 x2 x3 x4 x5 x6 u0 u1 u2 u3 u4 u5 u6
 go_loopw [5] (fun i wr=>∃k:Nat,k≤n0∧i= .int .i64 (k:Nat)∧fx.take k=fy.take k∧Below W.heap.size W wr) (fun i _=>n0-(intOf i).toNat)
 case atStart=>exact⟨0,zY _,rfl,by simp,zS _ _⟩
 case round=>
  obtain⟨wf,eW⟩:∃wf,wf=wr:=⟨_,rfl⟩
  subst eW
  obtain⟨k,hk,rfl,heq,hbel⟩:=hrel
  have HEQ:=zL heq
  have HBf:=zL hbel
  clear heq hbel
  obtain⟨⟨x0,x1,x2,x3,x4,x5,x6⟩,u0,u1,u2,u3,u4,u5,u6⟩:=HCV.out wf HBf.out
  by_cases hlt:k<n0
  · as_aux_lemma=>
    obtain⟨f,hf⟩:∃f,fx[k]? =some f:=⟨fx[k]'(by rw[HN0.out];exact hlt),zM _⟩
    obtain⟨p,hp⟩:∃p,fy[k]? =some p:=⟨fy[k]'(by rw[HM0.out];exact hlt),zM _⟩
    obtain⟨a,csa,ea,hab,hca,hRa⟩:=HS0.out.at hf
    obtain⟨b,csb,eb,hbb,hcb,hRb⟩:=HT0.out.at hp
    subst ea eb
    obtain⟨P0,e0,P1,e1,rfl,-,pm0,-,pm1,sa,sb,-,-⟩:=jC hRa
    obtain⟨Q0,o0,Q1,o1,rfl,-,qm0,-,qm1,ta,tb,-,-⟩:=jC hRb
    have hsm:=HZ4.out f (zT hf)
    have hsm':=HY4.out p (zT hp)
    have HCA:Hid (∀v,Below W.heap.size W v→(v.cell? (a.add (k*4))=some (.int .i64 f.fn)∧v.cell? ⟨(a.add (k*4)).block,(a.add (k*4)).off+1,none⟩=some (.int .i64 f.pc)∧v.cell? ⟨(a.add (k*4)).block,(a.add (k*4)).off+2,none⟩=some (.slice P0 f.locs.length e0)∧v.cell? ⟨(a.add (k*4)).block,(a.add (k*4)).off+3,none⟩=some (.slice P1 f.stk.length e1))∧v.cell? (b.add (k*4))=some (.int .i64 p.fn)∧v.cell? ⟨(b.add (k*4)).block,(b.add (k*4)).off+1,none⟩=some (.int .i64 p.pc)∧v.cell? ⟨(b.add (k*4)).block,(b.add (k*4)).off+2,none⟩=some (.slice Q0 p.locs.length o0)∧v.cell? ⟨(b.add (k*4)).block,(b.add (k*4)).off+3,none⟩=some (.slice Q1 p.stk.length o1)):=fun v hb=>by
     have hb2:=HBB.out v hb
     have g:∀(a:Addr) (i:Nat) (u:Value),a.block<w.heap.size→0<i→w.cell? (a.add (k*4+i))=some u→v.cell? ⟨(a.add (k*4)).block,(a.add (k*4)).off+i,none⟩=some u:=fun a i u h1 h2 h3=>by
      have:=(hb2.cell (p:=a.add (k*4+i)) (by rw[zh];exact h1)).trans h3
      rwa [zV a (k*4) i h2] at this
     exact⟨⟨(hb2.cell (p:=a.add (k*4)) qI).trans (hca 0 _ rfl),g a 1 _ hab (by omega) (hca 1 _ rfl),g a 2 _ hab (by omega) (hca 2 _ rfl),g a 3 _ hab (by omega) (hca 3 _ rfl)⟩,(hb2.cell (p:=b.add (k*4)) qn).trans (hcb 0 _ rfl),g b 1 _ hbb (by omega) (hcb 1 _ rfl),g b 2 _ hbb (by omega) (hcb 2 _ rfl),g b 3 _ hbb (by omega) (hcb 3 _ rfl)⟩
    have HWA:Hid (∀v,Below w.heap.size w v→Calls Try.prog 21 #[.slice P0 f.locs.length e0,.slice Q0 p.locs.length o0] v (Tells (eqB f.locs p.locs) v)):=fun v hb=>(jv P0 Q0 _ _ e0 o0 f.locs p.locs v _ _ rfl rfl (zk sa hb) (zk ta hb) (by have:=hsm.1;omega) (by have:=hsm'.1;omega)).mono fun e w2 h=>⟨h.1,by obtain⟨q,rfl⟩:=h.2;exact zm _ _⟩
    have HWB:Hid (∀v,Below w.heap.size w v→Calls Try.prog 21 #[.slice P1 f.stk.length e1,.slice Q1 p.stk.length o1] v (Tells (eqB f.stk p.stk) v)):=fun v hb=>(jv P1 Q1 _ _ e1 o1 f.stk p.stk v _ _ rfl rfl (zk sb hb) (zk tb hb) (by have:=hsm.2;omega) (by have:=hsm'.2;omega)).mono fun e w2 h=>⟨h.1,by obtain⟨q,rfl⟩:=h.2;exact zm _ _⟩
    have HFE:Hid (∀z,eqB f p=z→(decide (f.fn=p.fn) && decide (f.pc=p.pc) && eqB f.locs p.locs && eqB f.stk p.stk)=z):=fun z e=>by rw[←qAY];exact e
    have HNO:Hid ((decide (f.fn=p.fn) && decide (f.pc=p.pc) && eqB f.locs p.locs && eqB f.stk p.stk)=false→g=false):=fun e=>by
     rw[←qAY] at e
     rw[HE2.out,jz (jy hf hp (qAL e))]
     rfl
    have HYES:Hid ((decide (f.fn=p.fn) && decide (f.pc=p.pc) && eqB f.locs p.locs && eqB f.stk p.stk)=true→fx.take (k+1)=fy.take (k+1)):=fun e=>by
     rw[←qAY] at e
     exact jG HEQ.out hf hp (jD.1 e)
    have k0:(0:Int)≤(k:Int):=by omega
    have k1:(k:Int)<(n0:Int):=by omega
    clear hca hcb hRa hRb pm0 pm1 qm0 qm1 sa sb ta tb hsm hsm' hf hp HFE
    generalize f.fn=f1 at*
    generalize f.pc=f2 at*
    generalize f.locs.length=f3 at*
    generalize f.stk.length=f4 at*
    generalize p.fn=p1 at*
    generalize p.pc=p2 at*
    generalize p.locs.length=p3 at*
    generalize p.stk.length=p4 at*
    generalize eqB f.locs p.locs=bl at*
    generalize eqB f.stk p.stk=bs at*
    go_upto_region 6 with(fail)
    have hsf:=HBf.out.size
    have HSS:Hid (∀v,Below W.heap.size W v→v.cell? ⟨w.heap.size,0,none⟩=some (.slice (some a) n0 c0)∧v.cell? ⟨w.heap.size+1,0,none⟩=some (.slice (some b) n0 d0)∧(v.cell? (a.add (k*4))=some (.int .i64 f1)∧v.cell? ⟨(a.add (k*4)).block,(a.add (k*4)).off+1,none⟩=some (.int .i64 f2)∧v.cell? ⟨(a.add (k*4)).block,(a.add (k*4)).off+2,none⟩=some (.slice P0 f3 e0)∧v.cell? ⟨(a.add (k*4)).block,(a.add (k*4)).off+3,none⟩=some (.slice P1 f4 e1))∧v.cell? (b.add (k*4))=some (.int .i64 p1)∧v.cell? ⟨(b.add (k*4)).block,(b.add (k*4)).off+1,none⟩=some (.int .i64 p2)∧v.cell? ⟨(b.add (k*4)).block,(b.add (k*4)).off+2,none⟩=some (.slice Q0 p3 o0)∧v.cell? ⟨(b.add (k*4)).block,(b.add (k*4)).off+3,none⟩=some (.slice Q1 p4 o1)):=fun v hb=>⟨(HCV.out v hb).1.1,(HCV.out v hb).2.1,HCA.out v hb⟩
    have HLV:Hid (∀v:World,(∀b,b<W.heap.size→v.heap[b]? =wf.heap[b]?)→v.cell? ⟨w.heap.size,0,none⟩=some (.slice (some a) n0 c0)∧v.cell? ⟨w.heap.size+1,0,none⟩=some (.slice (some b) n0 d0)∧(v.cell? (a.add (k*4))=some (.int .i64 f1)∧v.cell? ⟨(a.add (k*4)).block,(a.add (k*4)).off+1,none⟩=some (.int .i64 f2)∧v.cell? ⟨(a.add (k*4)).block,(a.add (k*4)).off+2,none⟩=some (.slice P0 f3 e0)∧v.cell? ⟨(a.add (k*4)).block,(a.add (k*4)).off+3,none⟩=some (.slice P1 f4 e1))∧v.cell? (b.add (k*4))=some (.int .i64 p1)∧v.cell? ⟨(b.add (k*4)).block,(b.add (k*4)).off+1,none⟩=some (.int .i64 p2)∧v.cell? ⟨(b.add (k*4)).block,(b.add (k*4)).off+2,none⟩=some (.slice Q0 p3 o0)∧v.cell? ⟨(b.add (k*4)).block,(b.add (k*4)).off+3,none⟩=some (.slice Q1 p4 o1)):=fun v hv=>by
     have e:∀q u,wf.cell? q=some u→q.block<W.heap.size→v.cell? q=some u:=fun q u h1 h2=>(zZ (hv _ h2)).trans h1
     obtain⟨s1,s2,⟨s3,s4,s5,s6⟩,s7,s8,s9,s10⟩:=HSS.out wf HBf.out
     have ha:a.block<W.heap.size:=zP hab HBW.out.size
     have hb:b.block<W.heap.size:=zP hbb HBW.out.size
     exact⟨e _ _ s1 (by show w.heap.size<_;omega),e _ _ s2 hsW,⟨e _ _ s3 (by rw[zh];exact ha),e _ _ s4 (by show(a.add _).block<_;rw[zh];exact ha),e _ _ s5 (by show(a.add _).block<_;rw[zh];exact ha),e _ _ s6 (by show(a.add _).block<_;rw[zh];exact ha)⟩,e _ _ s7 (by rw[zh];exact hb),e _ _ s8 (by show(b.add _).block<_;rw[zh];exact hb),e _ _ s9 (by show(b.add _).block<_;rw[zh];exact hb),e _ _ s10 (by show(b.add _).block<_;rw[zh];exact hb)⟩
    have hDr:∀(v:World) (b:Nat),v.drew.heap[b]? =v.heap[b]? :=fun _ _=>rfl
    have hSt:∀(v:World) (b b' i:Nat) (u:Value),b≠b'→(v.setCell ⟨b',i,none⟩ u).heap[b]? =v.heap[b]? :=fun v b b' i u h=>zX _ _ _ _ h
    have hAl:∀(v:World) (o:Obj) (b:Nat),b<v.heap.size→(v.alloc o).heap[b]? =v.heap[b]? :=fun v o b h=>zd v o b h
    clear x0 x1 x2 x3 x4 x5 x6 u0 u1 u2 u3 u4 u5 u6
    go_region_held3 (fun v=>v.cell? ⟨w.heap.size,0,none⟩=some (.slice (some a) n0 c0)∧v.cell? ⟨w.heap.size+1,0,none⟩=some (.slice (some b) n0 d0)∧(v.cell? (a.add (k*4))=some (.int .i64 f1)∧v.cell? ⟨(a.add (k*4)).block,(a.add (k*4)).off+1,none⟩=some (.int .i64 f2)∧v.cell? ⟨(a.add (k*4)).block,(a.add (k*4)).off+2,none⟩=some (.slice P0 f3 e0)∧v.cell? ⟨(a.add (k*4)).block,(a.add (k*4)).off+3,none⟩=some (.slice P1 f4 e1))∧v.cell? (b.add (k*4))=some (.int .i64 p1)∧v.cell? ⟨(b.add (k*4)).block,(b.add (k*4)).off+1,none⟩=some (.int .i64 p2)∧v.cell? ⟨(b.add (k*4)).block,(b.add (k*4)).off+2,none⟩=some (.slice Q0 p3 o0)∧v.cell? ⟨(b.add (k*4)).block,(b.add (k*4)).off+3,none⟩=some (.slice Q1 p4 o1))
     (first|exact HSS.out _ HBf.out.drew|(refine HLV.out _ fun b hb=> ?_;repeat(first|with_reducible exact rfl|(with_reducible refine(hDr _ _).trans ?_)|((with_reducible refine(hSt _ _ _ _ _ ?_).trans ?_);(first|omega|(simp;omega)))|((with_reducible refine(hAl _ _ _ ?_).trans ?_);(first|omega|(simp[World.setCell];omega))))))
     (fail)
    · skip
      go_upto_region 7 with(fail)
      refine zi fun X hX=> ?_
      have HBX:Hid (Below W.heap.size W X):=by show Below _ _ _;rw[hX];exact((HBf.out.alloc HBf.out.size _).alloc (by have:=HBf.out.size;first|omega|(simp;omega)) _).drew
      have HCF:Hid (C4 (wf.heap.size) (.int .i64 f1) (.int .i64 f2) (.slice P0 f3 e0) (.slice P1 f4 e1) X∧C4 (wf.heap.size+1) (.int .i64 p1) (.int .i64 p2) (.slice Q0 p3 o0) (.slice Q1 p4 o1) X∧wf.heap.size+1<X.heap.size):=by show _∧_∧_;rw[hX];exact⟨by simp[C4,go_sem],by simp[C4,go_sem],by simp⟩
      clear hX
      have HCX:Hid (∀v,Below X.heap.size X v→C4 (wf.heap.size) (.int .i64 f1) (.int .i64 f2) (.slice P0 f3 e0) (.slice P1 f4 e1) v∧C4 (wf.heap.size+1) (.int .i64 p1) (.int .i64 p2) (.slice Q0 p3 o0) (.slice Q1 p4 o1) v):=fun v hb=>⟨HCF.out.1.below hb (by have:=HCF.out.2.2;omega),HCF.out.2.1.below hb (by have:=HCF.out.2.2;omega)⟩
      exact qE
    · skip
      go_upto_region 7 with(fail)
      refine zi fun X hX=> ?_
      have HBX:Hid (Below W.heap.size W X):=by show Below _ _ _;rw[hX];exact((HBf.out.alloc HBf.out.size _).alloc (by have:=HBf.out.size;first|omega|(simp;omega)) _).drew
      have HCF:Hid (C4 (wf.heap.size+1) (.int .i64 f1) (.int .i64 f2) (.slice P0 f3 e0) (.slice P1 f4 e1) X∧C4 (wf.heap.size) (.int .i64 p1) (.int .i64 p2) (.slice Q0 p3 o0) (.slice Q1 p4 o1) X∧wf.heap.size+1<X.heap.size):=by show _∧_∧_;rw[hX];exact⟨by simp[C4,go_sem],by simp[C4,go_sem],by simp⟩
      clear hX
      have HCX:Hid (∀v,Below X.heap.size X v→C4 (wf.heap.size+1) (.int .i64 f1) (.int .i64 f2) (.slice P0 f3 e0) (.slice P1 f4 e1) v∧C4 (wf.heap.size) (.int .i64 p1) (.int .i64 p2) (.slice Q0 p3 o0) (.slice Q1 p4 o1) v):=fun v hb=>⟨HCF.out.1.below hb (by have:=HCF.out.2.2;omega),HCF.out.2.1.below hb (by have:=HCF.out.2.2;omega)⟩
      exact qE
  · obtain rfl:n0=k:=by omega
    have HFE:Hid (eqB fx fy=true):=by
     have e:=HEQ.out
     rw[zU (by rw[HN0.out];exact zQ _),zU (by rw[HM0.out];exact zQ _)] at e
     show _=_
     rw[e,z9]
    cases b1
    all_goals
     go_wp2_with (first
      |(go_at_call 22
        (with_reducible refine(T1.out _ ?_).mono ?_)
        · exact HBB.out _ HBf.out
        rintro e z1 ⟨rfl,hz1⟩
        have HZ1:=zL (HBf.out.trans (hz1.mono HBf.out.size))
        obtain⟨⟨x0,x1,x2,x3,x4,x5,x6⟩,u0,u1,u2,u3,u4,u5,u6⟩:=HCV.out z1 HZ1.out
        clear hz1)
      |(go_at_call 23
        (with_reducible refine(T2.out _ ?_).mono ?_)
        · exact HBB.out _ HZ1.out
        rintro e z2 ⟨rfl,hz2⟩
        have HZ2:=zL (HZ1.out.trans (hz2.mono HZ1.out.size))
        clear hz2))
     go_ret
     first|exact⟨by rw[HE2.out,HFE.out];simp,HBB.out _ HZ2.out⟩|exact⟨by rw[HE2.out,HFE.out];simp,HBB.out _ HZ1.out⟩
open Go.ChangeShapes Go.WideShapes Go.ChangeAt Go.RowKit
def Opens {α:Type} (t:TypeId) (L:Lay α):Prop:=∀{H:Type} {enc:TypeId×Value→H} {W:World} {cs:List Value} {x:DataW H×List MemPlace} {fuel:Nat},DataW.trod enc Try.prog W 0 (fun _=>true) true fuel t cs=some x→∃y,L.R (·<W.heap.size) W cs y
theorem jl {n:Int} (h:(Lit.int .i64 n).wf=true):I64 n:=by
 have hmin:IntKind.i64.min= -9223372036854775808:=rfl
 have hmax:IntKind.i64.max=9223372036854775807:=rfl
 simp only[Lit.wf,Bool.and_eq_true,decide_eq_true_eq] at h
 unfold I64
 omega
theorem qCb:Opens 25 numL:=by
 intro H enc W cs x fuel hf
 obtain⟨z,rfl,_,hw⟩:=DataW.trod_int Try.underlying25 hf
 have hb:=bounds_u64 hw
 exact⟨z.toNat,by show[Value.int .u64 z]=_;rw[Int.toNat_of_nonneg hb.1],by unfold B64;omega⟩
open Go.ChangeShapes Go.WideShapes Go.ChangeAt Go.RowKit
def OpensZ {α:Type} (t:TypeId) (L:Lay α) (Z:α→Prop):Prop:=∀{H:Type} {enc:TypeId×Value→H} {W:World} {cs:List Value} {x:DataW H×List MemPlace} {fuel:Nat},DataW.trod enc Try.prog W 0 (fun _=>true) true fuel t cs=some x→
 (∀n∈x.1.weights Try.prog t,n≤reachBytes)→∃y,L.R (·<W.heap.size) W cs y∧Z y
def Zl {α:Type} (Z:α→Prop) (xs:List α):Prop:=xs.length≤reachBytes∧∀x∈xs,Z x
theorem jf {H:Type} {P:Program} {e:TypeId}:∀{ds:List (DataW H)} {d:DataW H},d∈ds→∀n∈d.weights P e,n∈DataW.weightsAll P e ds
 |d0::ds,d,hd,n,hn=>by
  simp only[DataW.weightsAll,List.mem_append]
  rcases List.mem_cons.1 hd with rfl|h
  · exact .inl hn
  · exact .inr (jf h n hn)
theorem jB {α:Type} [Inhabited α] {t e:TypeId} {L:Lay α} {Z:α→Prop} (hk:0<L.k) (ht:Try.prog.underlying t=some (.slice e)) (hc:Try.prog.cellsOf e=L.k) (hby:0<Try.prog.bytesOf e) (h:OpensZ e L Z):OpensZ t (slL L) (Zl Z):=by
 intro H enc W cs x fuel hf hwt
 rcases Go.Deep.open_slice ht hf with⟨hcs,_⟩|⟨a,l,c,m,n,D,Pl,hcs,_,hl,hm,hmm,hxx,hx⟩
 · exact⟨[],⟨none,0,hcs,zQ _,by simp[maxLen],Sq.nil _ _ _ _⟩,by simp,by simp⟩
 · simp only[if_true] at hmm
   rw[hxx] at hwt
   simp only[DataW.weights,ht] at hwt
   have hlr:l≤reachBytes:=by
    have h1:=hwt _ (List.mem_cons_self ..)
    simp only[List.length_map,List.length_range] at h1
    have h2:=Nat.mul_le_mul (show l≤l+(m-l) by omega) (show 1≤Try.prog.bytesOf e by omega)
    omega
   have hwe:∀i,i<l→∀n∈(D i).weights Try.prog e,n≤reachBytes:=fun i hi n hn=>
    hwt n (List.mem_cons_of_mem _ (List.mem_append_left _ (jf (List.mem_map.2 ⟨i,List.mem_range.2 hi,rfl⟩) n hn)))
   have hall:∀i,i<l→∃y cs',(∀j u,cs'[j]? =some u→W.cell? (a.add (i*L.k+j))=some u)∧L.R (·<W.heap.size) W cs' y∧Z y:=fun i hi=>by
    obtain⟨cs',h1,h2⟩:=hx i (by omega)
    rw[hc] at h1
    obtain⟨_,hlen,hcell⟩:=World.cells?_some h1
    obtain⟨y,hy⟩:=h h2 (hwe i hi)
    refine⟨y,cs',fun j u hu=> ?_,hy⟩
    have hj:j<cs'.length:=(zR.1 hu).1
    have:=hcell j (by omega)
    rw[qDU] at this
    rw[this,hu]
   obtain⟨f,hf2⟩:=Go.Deep.choose_lt hall
   refine⟨(List.range l).map f,⟨some a,c,by simpa using hcs,by simpa using hl,hm,fun hpos=>⟨a,rfl,?_,fun j y hj=> ?_⟩⟩,by simpa using hlr,fun y hy=> ?_⟩
   · simp at hpos
     obtain⟨cs',h1,h2,_⟩:=hf2 0 hpos
     have hlen:=L.len h2
     have:=zW W _ (h1 0 (cs'[0]'(by omega)) (zM _))
     rwa [zh] at this
   · have hjl:j<l:=by
      have:=(zR.1 hj).1
      simpa using this
     have e:f j=y:=by simpa[hjl] using hj
     obtain⟨cs',h1,h2,_⟩:=hf2 j hjl
     exact⟨cs',h1,e▸h2⟩
   · obtain⟨i,hi,rfl⟩:=List.mem_map.1 hy
     obtain⟨_,_,_,h3⟩:=hf2 i (List.mem_range.1 hi)
     exact h3
theorem OpensZ.of {α:Type} {t:TypeId} {L:Lay α} (h:Opens t L):OpensZ t L (fun _=>True):=fun hf _=>by
 obtain⟨y,hy⟩:=h hf
 exact⟨y,hy,trivial⟩
theorem jM {H:Type} {P:Program} {t:TypeId} {fs:Array Field} {parts:List (DataW H)} (ht:P.underlying t=some (.struct fs)) (h:∀n∈(DataW.agg parts).weights P t,n≤reachBytes) {i:Nat} {f:Field} {d:DataW H} (hf:fs[i]? =some f) (hd:parts[i]? =some d):∀n∈d.weights P f.type,n≤reachBytes:=by
 intro n hn
 refine h n ?_
 simp only[DataW.weights,ht]
 exact DataW.weights_mem_each (by simpa using⟨f,hf,rfl⟩) hd n hn
open Go.ChangeShapes Go.WideShapes Go.ChangeAt Go.RowKit
theorem qCa:Opens 5 octL:=by
 intro H enc W cs x fuel hf
 obtain⟨z,rfl,_,hw⟩:=DataW.trod_int Try.underlying5 hf
 have hb:=bounds_u8 hw
 exact⟨z.toNat,by show[Value.int .u8 z]=_;rw[Int.toNat_of_nonneg hb.1],by omega⟩
abbrev Zn:List Nat→Prop:=fun xs=>xs.length≤reachBytes
theorem qB0:OpensZ 35 bytL Zn:=fun hf hw=>by
 obtain⟨xs,hx,hz⟩:=jB (L:=octL) qY Try.underlying35 qD (by decide +kernel) (OpensZ.of qCa) hf hw
 exact⟨xs,qCB hx,hz.1⟩
theorem jw:OpensZ 32 wrdL Zn:=fun hf hw=>by
 obtain⟨xs,hx,hz⟩:=jB (L:=numL) qY Try.underlying32 qD (by decide +kernel) (OpensZ.of qCb) hf hw
 exact⟨xs,hx,hz.1⟩
def Zo (o:Ob):Prop:=o.words.length≤reachBytes∧o.bytes.length≤reachBytes
theorem qCe:OpensZ 37 obL Zo:=by
 intro H enc W cs x fuel hf hwt
 obtain⟨xs,k,hk,hxy,hl,hxl,hfl⟩:=DataW.trod_struct Try.underlying37 hf
 rw[hxy] at hwt
 have hw:=fun i f d=>jM (i:=i) (f:=f) (d:=d) Try.underlying37 hwt
 rw[show Try.prog.cellsOf 37=4 by kernel_rfl] at hl
 match xs,hxl,cs,hl with
 |[y0,y1,y2,y3],_,[v0,v1,v2,v3],_=>
  have g0:=hfl 0 _ rfl
  have g1:=hfl 1 _ rfl
  have g2:=hfl 2 _ rfl
  have g3:=hfl 3 _ rfl
  have w2:=hw 2 _ _ rfl rfl
  have w3:=hw 3 _ _ rfl rfl
  simp[show Try.prog.cellsOf 3=1 by kernel_rfl,show Try.prog.cellsOf 32=1 by kernel_rfl,show Try.prog.cellsOf 35=1 by kernel_rfl] at g0 g1 g2 g3
  obtain⟨z0,e0,_,b0⟩:=DataW.trod_int Try.underlying3 g0
  obtain⟨z1,e1,_,b1⟩:=DataW.trod_int Try.underlying3 g1
  simp at e0 e1
  subst e0 e1
  obtain⟨xs,hx,zx⟩:=jw g2 w2
  obtain⟨ys,hy,zy⟩:=qB0 g3 w3
  exact⟨⟨z0,z1,xs,ys⟩,⟨v2,v3,rfl,jl b0,jl b1,hx,hy⟩,zx,zy⟩
theorem qBx:OpensZ 23 (slL obL) (Zl Zo):=jB (L:=obL) qY Try.underlying23 qD (by decide +kernel) qCe
open Go.ChangeShapes Go.WideShapes Go.ChangeAt Go.RowKit
theorem qCc:Opens 39 hdL:=by
 intro H enc W cs x fuel hf
 obtain⟨xs,k,hk,hxy,hl,hxl,hfl⟩:=DataW.trod_struct Try.underlying39 hf
 rw[show Try.prog.cellsOf 39=3 by kernel_rfl] at hl
 match xs,hxl,cs,hl with
 |[y0,y1,y2],_,[v0,v1,v2],_=>
  have g0:=hfl 0 _ rfl
  have g1:=hfl 1 _ rfl
  have g2:=hfl 2 _ rfl
  simp[show Try.prog.cellsOf 3=1 by kernel_rfl,show Try.prog.cellsOf 25=1 by kernel_rfl,show Try.prog.cellsOf 4=1 by kernel_rfl] at g0 g1 g2
  obtain⟨z0,e0,_,b0⟩:=DataW.trod_int Try.underlying3 g0
  obtain⟨z1,e1,_,b1⟩:=DataW.trod_int Try.underlying25 g1
  obtain⟨b,e2,_⟩:=DataW.trod_bool Try.underlying4 g2
  simp at e0 e1 e2
  subst e0 e1 e2
  have c1:=bounds_u64 b1
  refine⟨⟨z0,z1.toNat,b⟩,?_,jl b0,?_⟩
  · show[Value.int .i64 z0,Value.int .u64 z1,Value.bool b]=[Value.int .i64 z0,Value.int .u64 (z1.toNat:Int),Value.bool b]
    rw[Int.toNat_of_nonneg c1.1]
  · show z1.toNat<B64
    unfold B64
    omega
open Go.ChangeShapes Go.WideShapes Go.ChangeAt Go.RowKit
def Zfr (o:Frm):Prop:=o.locs.length≤reachBytes∧o.stk.length≤reachBytes
theorem qCf:OpensZ 34 frL Zfr:=by
 intro H enc W cs x fuel hf hwt
 obtain⟨xs,k,hk,hxy,hl,hxl,hfl⟩:=DataW.trod_struct Try.underlying34 hf
 rw[hxy] at hwt
 have hw:=fun i f d=>jM (i:=i) (f:=f) (d:=d) Try.underlying34 hwt
 rw[show Try.prog.cellsOf 34=4 by kernel_rfl] at hl
 match xs,hxl,cs,hl with
 |[y0,y1,y2,y3],_,[v0,v1,v2,v3],_=>
  have g0:=hfl 0 _ rfl
  have g1:=hfl 1 _ rfl
  have g2:=hfl 2 _ rfl
  have g3:=hfl 3 _ rfl
  have w2:=hw 2 _ _ rfl rfl
  have w3:=hw 3 _ _ rfl rfl
  simp[show Try.prog.cellsOf 3=1 by kernel_rfl,show Try.prog.cellsOf 32=1 by kernel_rfl] at g0 g1 g2 g3
  obtain⟨z0,e0,_,b0⟩:=DataW.trod_int Try.underlying3 g0
  obtain⟨z1,e1,_,b1⟩:=DataW.trod_int Try.underlying3 g1
  simp at e0 e1
  subst e0 e1
  obtain⟨xs,hx,zx⟩:=jw g2 w2
  obtain⟨ys,hy,zy⟩:=jw g3 w3
  exact⟨⟨z0,z1,xs,ys⟩,⟨v2,v3,rfl,jl b0,jl b1,hx,hy⟩,zx,zy⟩
theorem qBz:OpensZ 22 frsL (Zl Zfr):=jB (L:=frL) qY Try.underlying22 qD (by decide +kernel) qCf
theorem qBy:OpensZ 24 hnsL (Zl fun _=>True):=jB (L:=hdL) qY Try.underlying24 qD (by decide +kernel) (OpensZ.of qCc)
def Zs (s:Stt):Prop:=Zl Zfr s.fr∧Zl Zo s.hp∧Zl (fun _=>True) s.hn
theorem qCd:OpensZ 27 stL Zs:=by
 intro H enc W cs x fuel hf hwt
 obtain⟨xs,k,hk,hxy,hl,hxl,hfl⟩:=DataW.trod_struct Try.underlying27 hf
 rw[hxy] at hwt
 have hw:=fun i f d=>jM (i:=i) (f:=f) (d:=d) Try.underlying27 hwt
 rw[show Try.prog.cellsOf 27=7 by kernel_rfl] at hl
 match xs,hxl,cs,hl with
 |[y0,y1,y2,y3,y4,y5,y6],_,[v0,v1,v2,v3,v4,v5,v6],_=>
  have g0:=hfl 0 _ rfl
  have g1:=hfl 1 _ rfl
  have g2:=hfl 2 _ rfl
  have g3:=hfl 3 _ rfl
  have g4:=hfl 4 _ rfl
  have g5:=hfl 5 _ rfl
  have g6:=hfl 6 _ rfl
  have w0:=hw 0 _ _ rfl rfl
  have w1:=hw 1 _ _ rfl rfl
  have w2:=hw 2 _ _ rfl rfl
  simp[show Try.prog.cellsOf 22=1 by kernel_rfl,show Try.prog.cellsOf 23=1 by kernel_rfl,show Try.prog.cellsOf 24=1 by kernel_rfl,show Try.prog.cellsOf 3=1 by kernel_rfl,show Try.prog.cellsOf 25=1 by kernel_rfl] at g0 g1 g2 g3 g4 g5 g6
  obtain⟨F,hF,zF⟩:=qBz g0 w0
  obtain⟨O,hO,zO⟩:=qBx g1 w1
  obtain⟨N,hN,zN⟩:=qBy g2 w2
  obtain⟨z3,e3,_,b3⟩:=DataW.trod_int Try.underlying3 g3
  obtain⟨z4,e4,_,b4⟩:=DataW.trod_int Try.underlying3 g4
  obtain⟨z5,e5,_,b5⟩:=DataW.trod_int Try.underlying3 g5
  obtain⟨z6,e6,_,b6⟩:=DataW.trod_int Try.underlying25 g6
  simp at e3 e4 e5 e6
  subst e3 e4 e5 e6
  have c6:=bounds_u64 b6
  refine⟨⟨F,O,N,z3,z4,z5,z6.toNat⟩,⟨v0,v1,v2,?_,hF,hO,hN,jl b3,jl b4,jl b5,?_⟩,zF,zO,zN⟩
  · show[v0,v1,v2,Value.int .i64 z3,Value.int .i64 z4,Value.int .i64 z5,Value.int .u64 z6]=[v0,v1,v2,Value.int .i64 z3,Value.int .i64 z4,Value.int .i64 z5,Value.int .u64 (z6.toNat:Int)]
    rw[Int.toNat_of_nonneg c6.1]
  · show z6.toNat<B64
    unfold B64
    omega
theorem qBX {H:Type} {enc:TypeId×Value→H} {W:World} {v:Value} {d:DataW H} {p:List MemPlace} (h:DataW.Trod enc Try.prog W 0 (fun _=>true) true 27 v d p) (hw:∀n∈d.weights Try.prog 27,n≤reachBytes):
 ∃cs s,v=vAgg cs∧stL.R (·<W.heap.size) W cs s∧Zs s:=by
 obtain⟨fuel,hf⟩:=h
 obtain⟨s,hs,hz⟩:=qCd hf hw
 have hl:=stL.len hs
 have hv:v= .agg v.cells:=by
  cases v<;>first|rfl|exact absurd hl (by simp[Value.cells,stL])
 refine⟨v.cells.toList,s,?_,hs,hz⟩
 rw[vAgg,Array.toArray_toList]
 exact hv
end Go.Proofs.Ytconajaecpgjgaa
