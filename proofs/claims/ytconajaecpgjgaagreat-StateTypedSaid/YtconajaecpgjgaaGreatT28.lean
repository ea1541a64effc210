/-
Rg4
-/
import Derived.Test.YtconajaecpgjgaaGreatT13
import Derived.Test.YtconajaecpgjgaaGreatT26
import Derived.Test.YtconajaecpgjgaaGreatT27
set_option linter.unusedSimpArgs false
set_option linter.unusedVariables false
set_option maxRecDepth 100000
set_option maxHeartbeats 8000000
namespace Go.Proofs.YtconajaecpgjgaaGreat
open Go.RowKit
theorem qQ {P:Prop} (h:P:=by
 clear HG
 go_wp2_with fail
 go_quiet (fail)
 go_wp2_with fail
 go_ret
 exact⟨rfl,HBW.out.trans ((HBX.out.trans ((qA7 _ _).mono HBX.out.size)).mono hW0)⟩):P:=h
theorem qt {P:Prop} (h:P:=by
 obtain rfl:G=false:=by rw[←HG.out];exact qBw (decide_eq_false fun h=>by omega)
 clear HG
 go_wp2_with fail
 go_ret
 exact⟨rfl,HBW.out⟩):P:=h
theorem q9 {P:Prop} (h:P:=by
 clear HG
 go_wp2_with fail
 go_ret
 exact⟨rfl,HBW.out⟩):P:=h
theorem rtyped_any (csm css:List Value) (m:Mod) (s:Stt) (D:Option Addr) (n c:Nat) (L:List (List Shape)) (w:World) (hm:modL.R (·<w.heap.size) w csm m) (hs:stL.R (·<w.heap.size) w css s) (hl:L.length=n) (hL:Sq rowL (·<w.heap.size) w D L) (hn:n≤9223372036854775807) (hc:checkN m=0) (hr:RightM m L):
 Calls Tryz.prog 16 #[vAgg csm,.slice D n c,vAgg css] w (Tells (typedB m L s) w):=by
 have RS:Hid (∀v (k:Nat),Below w.heap.size w v→k<s.fr.length→s.fr.length≤1000→Calls Tryz.prog 38 #[vAgg csm,.slice D n c,vAgg css,.int .i64 (k:Nat)] v fun e w'=>Below v.heap.size v w'∧AtIs (stackB m L s k) v.heap.size v e):=fun v k hb hk h8=>qGJ csm css m s D n c L k v (qBQ hm hb) (stL.wide (stL.keep hs fun b h1=>hb.block b h1) fun b h1=>qAg h1 hb.size) hl (qBD hL hb) hn hc hr hk h8
 obtain⟨A0,A1,A2,A3,A4,n0,n1,n2,n3,n4,d0,d1,d2,d3,d4,rfl⟩:=qCy hm
 obtain⟨F,cf,O,co,H,ch,rfl,lf,mf,lo,mo,lh,mh,sF,sO,sH,iq,iu,ifn,iv⟩:=qBh hs
 obtain⟨_,_,_,_,_,ex,⟨A0',d0',ex0,l0,m0,s0⟩,⟨A1',d1',ex1,l1,m1,s1⟩,-⟩:=hm
 simp only[List.cons.injEq,and_true] at ex
 obtain⟨rfl,rfl,rfl,rfl,rfl⟩:=ex
 simp only[List.cons.injEq,Value.slice.injEq,and_true] at ex0 ex1
 obtain⟨rfl,h0,rfl⟩:=ex0
 obtain⟨rfl,h1,rfl⟩:=ex1
 have HS0:=qAZ s0
 have HS1:=qAZ s1
 have HN0:=qAZ h0
 have HN1:=qAZ h1
 have bn0:(n0:Int)≤9223372036854775807:=by unfold maxLen at m0;omega
 have bn1:(n1:Int)≤9223372036854775807:=by unfold maxLen at m1;omega
 obtain⟨nf,hnf⟩:∃x,s.fr.length=x:=⟨_,rfl⟩
 obtain⟨no,hno⟩:∃x,s.hp.length=x:=⟨_,rfl⟩
 obtain⟨nh,hnh⟩:∃x,s.hn.length=x:=⟨_,rfl⟩
 have HNF:=qAZ hnf
 have HNO:=qAZ hno
 have HNH:=qAZ hnh
 have HSF:=qAZ sF
 have HSO:=qAZ sO
 have HSH:=qAZ sH
 have HR:=qAZ hr
 have HC:=qAZ hc
 rw[hnf,hno,hnh] at RS
 rw[hnf,hno,hnh]
 rw[hnf] at lf
 rw[hno] at lo
 rw[hnh] at lh
 have b0:(nf:Int)≤9223372036854775807:=by unfold maxLen at mf;omega
 have b1:(no:Int)≤9223372036854775807:=by unfold maxLen at mo;omega
 have b2:(nh:Int)≤9223372036854775807:=by unfold maxLen at mh;omega
 obtain⟨G,hG⟩:∃g,typedB m L s=g:=⟨_,rfl⟩
 have HG:=qAZ hG
 rw[hG]
 simp only[vAgg] at RS⊢
 show Calls Tryz.prog 16 #[.agg #[.slice A0 n0 d0,.slice A1 n1 d1,.slice A2 n2 d2,.slice A3 n3 d3,.slice A4 n4 d4],.slice D n c,.agg #[.slice F nf cf,.slice O no co,.slice H nh ch,.int .i64 s.quota,.int .i64 s.used,.int .i64 s.fin,.int .u64 (s.val:Int)]] w _
 clear s0 s1 h0 h1 l0 l1 m0 m1 hs hl hL hc hr hnf hno hnh sF sO sH hG lf mf lo mo lh mh
 go_enter Tryz.func16,Tryz.ntmps16
 go_upto_region 1 with(fail)
 refine qAp fun W hW=> ?_
 have hbw:Below w.heap.size w W:=by rw[hW];exact((qAe _ _).alloc (qAf _) _).alloc (by simp) _
 have hkm:Blk W w.heap.size 28 #[.slice A0 n0 d0,.slice A1 n1 d1,.slice A2 n2 d2,.slice A3 n3 d3,.slice A4 n4 d4]:=by rw[hW];exact qAd (qAm rfl)
 have hks:Blk W (w.heap.size+1) 36 #[.slice F nf cf,.slice O no co,.slice H nh ch,.int .i64 s.quota,.int .i64 s.used,.int .i64 s.fin,.int .u64 (s.val:Int)]:=by rw[hW];exact qAm (by simp)
 have HBW:=qAZ hbw
 have HKM:=qAZ hkm
 have HKS:=qAZ hks
 have hW0:=hbw.size
 have y0:W.cell? ⟨w.heap.size+1,0,none⟩=some (.slice F nf cf):=hks.cell 0
 have y1:W.cell? ⟨w.heap.size+1,1,none⟩=some (.slice O no co):=hks.cell 1
 have y2:W.cell? ⟨w.heap.size+1,2,none⟩=some (.slice H nh ch):=hks.cell 2
 have y3:W.cell? ⟨w.heap.size+1,3,none⟩=some (.int .i64 s.quota):=hks.cell 3
 have y4:W.cell? ⟨w.heap.size+1,4,none⟩=some (.int .i64 s.used):=hks.cell 4
 have y5:W.cell? ⟨w.heap.size+1,5,none⟩=some (.int .i64 s.fin):=hks.cell 5
 have y6:W.cell? ⟨w.heap.size+1,6,none⟩=some (.int .u64 (s.val:Int)):=hks.cell 6
 clear hW hbw hkm hks
 by_cases c0:s.quota<0
 · exact qt
 by_cases c1:(65536:Int)<s.quota
 · exact qt
 by_cases c2:s.used<0
 · exact qt
 by_cases c3:s.quota<s.used
 · exact qt
 by_cases c4:s.fin<0
 · exact qt
 by_cases c5:(7:Int)<s.fin
 · exact qt
 by_cases c6:(4096:Int)<(no:Int)
 · obtain rfl:G=false:=by rw[←HG.out];exact qBw (decide_eq_false fun h=>by rw[HNO.out] at h;omega)
   exact q9
 by_cases c7:(16:Int)<(nh:Int)
 · obtain rfl:G=false:=by rw[←HG.out];exact qBw (decide_eq_false fun h=>by rw[HNH.out] at h;omega)
   exact q9
 by_cases c8:(8:Int)<(nf:Int)
 · obtain rfl:G=false:=by rw[←HG.out];exact qBw (decide_eq_false fun h=>by rw[HNF.out] at h;omega)
   exact q9
 have HCn:Hid (countB s=true):=decide_eq_true (by rw[HNF.out,HNO.out,HNH.out];omega)
 have hnf8:(nf:Int)≤8:=by omega
 have hno4:(no:Int)≤4096:=by omega
 have hnh16:(nh:Int)≤16:=by omega
 go_upto_region 3 with(fail)
 clear c0 c1 c2 c3 c4 c5 c6 c7 c8
 go_wp2_with fail
 go_loopw [7] (fun i wr=>∃k:Nat,k≤nh∧i= .int .i64 (k:Nat)∧(s.hn.take k).all handB=true∧wr=W) (fun i _=>nh-(intOf i).toNat)
 case atStart=>exact⟨0,qAs _,rfl,by simp,rfl⟩
 case round=>
  obtain⟨k,hk,rfl,hall,ew⟩:=hrel
  have ew:=ew.symm
  subst ew
  have HA:=qAZ hall
  clear hall
  by_cases hlt:k<nh
  · obtain⟨x,hx⟩:∃x,s.hn[k]? =some x:=⟨s.hn[k]'(by rw[HNH.out];exact hlt),qAa _⟩
    obtain⟨aH,csx,rfl,-,hcx,rfl,-⟩:=(qBD HSH.out HBW.out).at hx
    have q:W.cell? (aH.add (k*3))=some (.int .i64 x.kind):=hcx 0 _ rfl
    have k0:(0:Int)≤(k:Int):=by omega
    have k1:(k:Int)<(nh:Int):=by omega
    have HXk:=qAZ hx
    clear hcx hx
    by_cases p1:x.kind<0
    · exact j5
    by_cases p2:(3:Int)<x.kind
    · exact j5
    have HH:Hid (handB x=true):=by show _=_;simp[handB];omega
    go_wp2_with fail
    refine⟨⟨k+1,by omega,by simp,?_,by trivial⟩,by simp[intOf];omega⟩
    obtain⟨h1,rfl⟩:=qAh.1 HXk.out
    rw[qAu h1,List.all_append,HA.out]
    simp[HH.out]
  · obtain rfl:nh=k:=by omega
    have HHn:Hid (s.hn.all handB=true):=by
     have:=HA.out
     rwa [qAr (by rw[HNH.out];omega)] at this
    clear HA hlt hk
    go_wp2_with fail
    go_loopw [8] (fun i wr=>∃k:Nat,k≤no∧i= .int .i64 (k:Nat)∧(s.hp.take k).all (objB m s)=true∧Below W.heap.size W wr) (fun i _=>no-(intOf i).toNat)
    case atStart=>exact⟨0,qAs _,rfl,by simp,qAe _ _⟩
    case round=>
     obtain⟨wf,eW⟩:∃wf,wf=wr:=⟨_,rfl⟩
     subst eW
     obtain⟨k,hk,rfl,hall,hbf⟩:=hrel
     have HA:=qAZ hall
     have HBf:=qAZ hbf
     have hK:=qAc HKS.out hbf HKS.out.lt
     have f1:wf.cell? ⟨w.heap.size+1,1,none⟩=some (.slice O no co):=hK.cell 1
     have f5:wf.cell? ⟨w.heap.size+1,5,none⟩=some (.int .i64 s.fin):=hK.cell 5
     clear hall hK y0 y1 y2 y3 y4 y5 y6
     by_cases hlt:k<no
     · as_aux_lemma=>
       obtain⟨x,hx⟩:∃x,s.hp[k]? =some x:=⟨s.hp[k]'(by rw[HNO.out];exact hlt),qAa _⟩
       obtain⟨aO,csx,rfl,-,hcx,hRx⟩:=(qBD HSO.out (HBW.out.trans (hbf.mono hW0))).at hx
       obtain⟨P0,e0,P1,e1,rfl,l0,l0',l1,l1',sW,-,-,i1,i2⟩:=qCB hRx
       have q0:wf.cell? (aO.add (k*4))=some (.int .i64 x.kind):=hcx 0 _ rfl
       have q1:wf.cell? (aO.add (k*4+1))=some (.int .i64 x.n):=hcx 1 _ rfl
       have q2:wf.cell? (aO.add (k*4+2))=some (.slice P0 x.words.length e0):=hcx 2 _ rfl
       have q3:wf.cell? (aO.add (k*4+3))=some (.slice P1 x.bytes.length e1):=hcx 3 _ rfl
       rw[qAl aO (k*4) 1 (by omega)] at q1
       rw[qAl aO (k*4) 2 (by omega)] at q2
       rw[qAl aO (k*4) 3 (by omega)] at q3
       have k0:(0:Int)≤(k:Int):=by omega
       have k1:(k:Int)<(no:Int):=by omega
       have HXk:=qAZ hx
       have HSW:Hid (Sq numL (·<wf.heap.size) wf P0 x.words):=sW
       obtain⟨ki,hki⟩:∃y,x.kind=y:=⟨_,rfl⟩
       obtain⟨ni,hni⟩:∃y,x.n=y:=⟨_,rfl⟩
       obtain⟨wl,hwl⟩:∃y,x.words.length=y:=⟨_,rfl⟩
       obtain⟨bl,hbl⟩:∃y,x.bytes.length=y:=⟨_,rfl⟩
       have HXK:=qAZ hki
       have HXN:=qAZ hni
       have HXW:=qAZ hwl
       have HXB:=qAZ hbl
       rw[hki] at q0 i1
       rw[hni] at q1 i2
       rw[hwl] at q2 l0
       rw[hbl] at q3 l1
       have hsf:=hbf.size
       clear hki hni hwl hbl hcx hx sW hbf
       go_upto_region 13 with(fail)
       refine qAp fun X hX=> ?_
       have hfx:Below wf.heap.size wf X:=by rw[hX];exact(qAe _ _).alloc (qAf _) _
       have hkx:Blk X wf.heap.size 54 #[.int .i64 ki,.int .i64 ni,.slice P0 wl e0,.slice P1 bl e1]:=by rw[hX];exact qAm rfl
       have HBX:Hid (Below W.heap.size W X):=HBf.out.trans (hfx.mono HBf.out.size)
       have HFX:=qAZ hfx
       have o0:X.cell? ⟨wf.heap.size,0,none⟩=some (.int .i64 ki):=hkx.cell 0
       have o1:X.cell? ⟨wf.heap.size,1,none⟩=some (.int .i64 ni):=hkx.cell 1
       have o2:X.cell? ⟨wf.heap.size,2,none⟩=some (.slice P0 wl e0):=hkx.cell 2
       have o3:X.cell? ⟨wf.heap.size,3,none⟩=some (.slice P1 bl e1):=hkx.cell 3
       have HKX:=qAZ hkx
       clear hX hfx hkx q0 q1 q2 q3
       by_cases e2:ki=2
       · have e2':x.kind=2:=HXK.out.trans e2
         have t0:(ki==2)=true:=by simpa using e2
         have t1:(ki==3)=false:=by simp;omega
         have t2:(ki==4)=false:=by simp;omega
         have E2:=qAZ e2'
         clear e2 e2'
         by_cases a2:ni=0
         rotate_left
         · have HOB:Hid (objB m s x=false):=by show _=_;rw[qCk E2.out,HXN.out,HXW.out,HXB.out];exact decide_eq_false (by omega)
           exact jZ
         have t3:(ni==0)=true:=by simpa using a2
         by_cases a3:(wl:Int)=0
         rotate_left
         · have HOB:Hid (objB m s x=false):=by show _=_;rw[qCk E2.out,HXN.out,HXW.out,HXB.out];exact decide_eq_false (by omega)
           obtain rfl:G=false:=by
            rw[←HG.out]
            exact qBX (List.all_eq_false.2 ⟨x,qAk HXk.out,by rw[HOB.out];simp⟩)
           have u0:((wl:Int)==0)=false:=by simp;omega
           exact qQ
         have u0:((wl:Int)==0)=true:=by simp;omega
         by_cases a4:(bl:Int)≤64
         rotate_left
         · have HOB:Hid (objB m s x=false):=by show _=_;rw[qCk E2.out,HXN.out,HXW.out,HXB.out];exact decide_eq_false (by omega)
           obtain rfl:G=false:=by
            rw[←HG.out]
            exact qBX (List.all_eq_false.2 ⟨x,qAk HXk.out,by rw[HOB.out];simp⟩)
           have u1:decide ((bl:Int)≤64)=false:=by simp;omega
           exact qQ
         have u1:decide ((bl:Int)≤64)=true:=by simp;omega
         have HOB:Hid (objB m s x=true):=by show _=_;rw[qCk E2.out,HXN.out,HXW.out,HXB.out];exact decide_eq_true (by omega)
         go_wp2_with fail
         refine⟨⟨k+1,by omega,by simp,?_,HBX.out⟩,by simp[intOf];omega⟩
         exact jI
       by_cases e3:ki=3
       · have e3':x.kind=3:=HXK.out.trans e3
         have t0:(ki==2)=false:=by simp;omega
         have t1:(ki==3)=true:=by simpa using e3
         have t2:(ki==4)=false:=by simp;omega
         have E3:=qAZ e3'
         clear e3 e3' e2
         by_cases a2:ni=0
         rotate_left
         · have HOB:Hid (objB m s x=false):=by show _=_;rw[qCA E3.out,HXN.out,HXW.out,HXB.out];exact decide_eq_false (by omega)
           exact jZ
         have t3:(ni==0)=true:=by simpa using a2
         by_cases a3:(bl:Int)=0
         rotate_left
         · have HOB:Hid (objB m s x=false):=by show _=_;rw[qCA E3.out,HXN.out,HXW.out,HXB.out];exact decide_eq_false (by omega)
           obtain rfl:G=false:=by
            rw[←HG.out]
            exact qBX (List.all_eq_false.2 ⟨x,qAk HXk.out,by rw[HOB.out];simp⟩)
           have u0:((bl:Int)==0)=false:=by simp;omega
           exact qQ
         have u0:((bl:Int)==0)=true:=by simp;omega
         by_cases a4:(wl:Int)≤64
         rotate_left
         · have HOB:Hid (objB m s x=false):=by show _=_;rw[qCA E3.out,HXN.out,HXW.out,HXB.out];exact decide_eq_false (by omega)
           obtain rfl:G=false:=by
            rw[←HG.out]
            exact qBX (List.all_eq_false.2 ⟨x,qAk HXk.out,by rw[HOB.out];simp⟩)
           have u1:decide ((wl:Int)≤64)=false:=by simp;omega
           exact qQ
         have u1:decide ((wl:Int)≤64)=true:=by simp;omega
         have HOB:Hid (objB m s x=true):=by show _=_;rw[qCA E3.out,HXN.out,HXW.out,HXB.out];exact decide_eq_true (by omega)
         go_wp2_with fail
         refine⟨⟨k+1,by omega,by simp,?_,HBX.out⟩,by simp[intOf];omega⟩
         exact jI
       have t0:(ki==2)=false:=by simpa using e2
       have t1:(ki==3)=false:=by simpa using e3
       by_cases e4:ki=4
       rotate_left
       · have t2:(ki==4)=false:=by simpa using e4
         have HOB:Hid (objB m s x=false):=qEZ (by rw[HXK.out];exact e2) (by rw[HXK.out];exact e3) (by rw[HXK.out];exact e4)
         exact j7
       subst e4
       have E4:Hid (x.kind=4):=HXK.out
       have g0:X.cell? ⟨w.heap.size,0,none⟩=some (.slice A0 n0 d0):=(qAc HKM.out HBX.out HKM.out.lt).cell 0
       clear e2 e3 t0 t1
       by_cases hin:0≤ni∧ni<(n0:Int)
       rotate_left
       · have HOB:Hid (objB m s x=false):=qFi E4.out (by rw[HXN.out,←HN0.out];exact hin)
         obtain rfl:G=false:=by
          rw[←HG.out]
          exact qBX (List.all_eq_false.2 ⟨x,qAk HXk.out,by rw[HOB.out];simp⟩)
         by_cases h0:0≤ni
         · have h1:¬ni<(n0:Int):=by omega
           have d0:decide (0≤ni)=true:=by simpa using h0
           have d1:decide (ni<(n0:Int))=false:=by simpa using h1
           clear hin
           exact qQ
         · have d0:decide (0≤ni)=false:=by simpa using h0
           clear hin
           exact qQ
       obtain⟨j,rfl⟩:∃j:Nat,ni=(j:Int):=⟨ni.toNat,by omega⟩
       have j0:(0:Int)≤(j:Int):=by omega
       have j1:(j:Int)<(n0:Int):=by omega
       obtain⟨r,hrr⟩:∃r,m.recs[j]? =some r:=⟨m.recs[j]'(by rw[←HN0.out];omega),qAa _⟩
       have HO:=qAZ (qFh (m:=m) (s:=s) E4.out HXN.out hrr)
       by_cases hb:bl=0
       rotate_left
       · have u3:((bl:Int)==0)=false:=by simp;omega
         have HOB:Hid (objB m s x=false):=by show _=_;rw[HO.out,decide_eq_false (by rw[HXB.out];exact hb)];rfl
         clear hin HO hrr
         exact j7
       have u3:((bl:Int)==0)=true:=by simp;omega
       obtain⟨ar,csr,rfl,hab,hc,D',dl,rfl,r1,r2,sqr⟩:=HS0.out.at hrr
       have cr:=qAt (qBC (K:=tysL.k) rfl (hc 0 _ rfl)) (HBW.out.trans (HBX.out.mono hW0))
       obtain⟨ab,hab2⟩:∃ab,allB s x.words r=ab:=⟨_,rfl⟩
       have HOB:Hid (objB m s x=ab):=by show _=_;rw[HO.out,decide_eq_true (by rw[HXB.out];exact hb),hab2];rfl
       have RA:Hid (∀v,Below X.heap.size X v→Calls Tryz.prog 37 #[.agg #[.slice F nf cf,.slice (some aO) no co,.slice H nh ch,.int .i64 s.quota,.int .i64 s.used,.int .i64 s.fin,.int .u64 (s.val:Int)],.slice P0 wl e0,.slice D' r.length dl] v fun e w'=>e= .returned (.bool ab)∧Below v.heap.size v w'):=fun v hb1=>by
        have hv:Below w.heap.size w v:=HBW.out.trans ((HBX.out.trans (hb1.mono HBX.out.size)).mono hW0)
        have hv2:Below wf.heap.size wf v:=HFX.out.trans (hb1.mono HFX.out.size)
        have:=qD4 F (some aO) H nf cf no co nh ch (.int .i64 s.quota) (.int .i64 s.used) (.int .i64 s.fin) (.int .u64 (s.val:Int)) s P0 D' wl e0 r.length dl x.words r v HNO.out HNH.out (qBD HSO.out hv) (qBD HSH.out hv) (by omega) (by omega) HXW.out rfl (qBD HSW.out hv2) (qBD sqr hv) (by unfold maxLen at l0';omega) (by unfold maxLen at r2;omega)
        rw[hab2] at this
        exact this
       have hK2:=qAc HKS.out HBX.out HKS.out.lt
       have v0:=cell_regrown (hK2.cell 0)
       have v1:=cell_regrown (hK2.cell 1)
       have v2:=cell_regrown (hK2.cell 2)
       have v3:=cell_regrown (hK2.cell 3)
       have v4:=cell_regrown (hK2.cell 4)
       have v5:=cell_regrown (hK2.cell 5)
       have v6:=cell_regrown (hK2.cell 6)
       have p0:=cell_regrown o0
       have p1:=cell_regrown o1
       have p2:=cell_regrown o2
       have p3:=cell_regrown o3
       have p4:=cell_regrown g0
       have p5:=cell_regrown cr
       have HXR:Hid (∀dq osq,Below X.heap.size X (Go.Sort.grow (redrawn X dq) osq)):=fun dq osq=>below_regrown X dq osq
       clear hin HO hrr hc hab hab2 hb sqr r1 r2 hK2
       generalize r.length=rl at*
       cases ab
       · obtain rfl:G=false:=by
          rw[←HG.out]
          exact qBX (List.all_eq_false.2 ⟨x,qAk HXk.out,by rw[HOB.out];simp⟩)
         clear HG
         go_wp2_with fail
         refine wp_region_quiet_below qV qV ?_
         repeat(quiet_step (first|with_reducible exact Calls.regrown_of (RA.out _ (HXR.out _ _))))
         refine wpQuiet_nil ?_
         intro _ hw'
         obtain⟨⟨dq,osq⟩,hw''⟩:=hw'
         subst hw''
         have HX2:=qAZ (HXR.out dq osq)
         go_wp2_with fail
         go_ret
         exact⟨rfl,HBW.out.trans ((HBX.out.trans (HX2.out.mono HBX.out.size)).mono hW0)⟩
       · go_wp2_with fail
         refine wp_region_quiet_below qV qV ?_
         repeat(quiet_step (first|with_reducible exact Calls.regrown_of (RA.out _ (HXR.out _ _))))
         refine wpQuiet_nil ?_
         intro _ hw'
         obtain⟨⟨dq,osq⟩,hw''⟩:=hw'
         subst hw''
         have HX2:=qAZ (HXR.out dq osq)
         go_wp2_with fail
         refine⟨⟨k+1,by omega,by simp,?_,HBX.out.trans (HX2.out.mono HBX.out.size)⟩,by simp[intOf];omega⟩
         exact jI
     · have ek:no=k:=by omega
       subst ek
       have HOb:Hid (s.hp.all (objB m s)=true):=by
        have:=HA.out
        rwa [qAr (by rw[HNO.out];omega)] at this
       have HE:Hid (endB m L s=G):=by show _=_;rw[←qDv (L:=L) HCn.out HHn.out HOb.out];exact HG.out
       have hK:=qAc HKS.out HBf.out HKS.out.lt
       have f0:wf.cell? ⟨w.heap.size+1,0,none⟩=some (.slice F nf cf):=hK.cell 0
       have f6:wf.cell? ⟨w.heap.size+1,6,none⟩=some (.int .u64 (s.val:Int)):=hK.cell 6
       have HBX:Hid (Below w.heap.size w wf):=HBW.out.trans (HBf.out.mono hW0)
       have hwf:=HBX.out.size
       clear hK HA HG hlt HCn HHn HOb hbf
       by_cases hfin:s.fin=0
       rotate_left
       · have HO:=qAZ (HE.out.symm.trans (qF3 hfin))
         have t0:(s.fin != 0)=true:=by simpa using hfin
         rw[HNF.out,HNO.out] at HO
         have HV:Hid (decide (nf=0∧no=0∧(s.val=0∨s.fin=1))=(((nf:Int)==0) && ((no:Int)==0) && (((s.val:Int)==0) || (s.fin==1)))):=by
          show _=_
          rw[Bool.eq_iff_iff]
          simp[and_assoc]
         obtain⟨z0,hz0⟩:∃z,((nf:Int)==0)=z:=⟨_,rfl⟩
         obtain⟨z1,hz1⟩:∃z,((no:Int)==0)=z:=⟨_,rfl⟩
         obtain⟨z2,hz2⟩:∃z,((s.val:Int)==0)=z:=⟨_,rfl⟩
         obtain⟨z3,hz3⟩:∃z,(s.fin==1)=z:=⟨_,rfl⟩
         have HO2:Hid (G=(z0 && z1 && (z2 || z3))):=by show _=_;rw[HO.out,HV.out,hz0,hz1,hz2,hz3]
         clear HO HV HE
         cases z0
         case' true=>cases z1
         case' true.true=>cases z2
         case' true.true.false=>cases z3
         all_goals
          go_wp2_with fail
          go_ret
          exact⟨by rw[HO2.out];rfl,HBX.out⟩
       have t0:(s.fin != 0)=false:=by simpa using hfin
       by_cases hval:s.val=0
       rotate_left
       · have HO:=qAZ (HE.out.symm.trans (qF2 hfin hval))
         have t1:((s.val:Int) != 0)=true:=by simp;omega
         clear HE hval hfin
         go_wp2_with fail
         go_ret
         exact⟨by rw[HO.out];rfl,HBX.out⟩
       have t1:((s.val:Int) != 0)=false:=by simp;omega
       by_cases hnf0:nf=0
       · have HO:=qAZ (HE.out.symm.trans (qEj hfin (qA1 (by rw[HNF.out];exact hnf0))))
         have t2:((nf:Int)==0)=true:=by simp;omega
         clear HE hval hfin hnf0
         go_wp2_with fail
         go_ret
         exact⟨by rw[HO.out];rfl,HBX.out⟩
       have t2:((nf:Int)==0)=false:=by simp;omega
       obtain⟨fr0,hf0⟩:∃f,s.fr[0]? =some f:=⟨s.fr[0]'(by rw[HNF.out];omega),qAa _⟩
       obtain⟨aF,csf,rfl,-,hcf,hRf⟩:=HSF.out.at hf0
       obtain⟨P0,e0,P1,e1,rfl,-⟩:=qBq hRf
       have g0:=hcf 0 _ rfl
       rw[show 0*frL.k+0=0 from rfl,show aF.add 0=aF by simp[Addr.add]] at g0
       have g1:=qAt g0 HBX.out
       have p0:(0:Int)<(nf:Int):=by omega
       clear g0 hRf hcf
       by_cases hfn:fr0.fn=0
       rotate_left
       · have HO:=qAZ (HE.out.symm.trans (qEF hfin hf0 hfn))
         have t3:(fr0.fn != 0)=true:=by simpa using hfn
         clear HE hval hfin hnf0 hf0 hfn
         go_wp2_with fail
         go_ret
         exact⟨by rw[HO.out];rfl,HBX.out⟩
       have t3:(fr0.fn != 0)=false:=by simpa using hfn
       have HO:=qAZ (HE.out.symm.trans (qG4 hfin hval hf0 hfn))
       clear HE hval hfin hnf0 hf0 hfn
       go_wp2_with fail
       clear t0 t1 t2 t3 f0 f1 f5 f6 g1
       go_loopw [10,11,12,13] (fun i _ _ _ wr=>∃k:Nat,k≤nf∧i= .int .i64 (k:Nat)∧Below wf.heap.size wf wr∧∀j,j<k→frameB m L s j=true) (fun i _ _ _ _=>nf-(intOf i).toNat)
       case atStart=>exact⟨0,qAs _,rfl,qAe _ _,fun j h=>absurd h (by omega)⟩
       case round=>
        obtain⟨wp,eW⟩:∃wp,wp=wr:=⟨_,rfl⟩
        subst eW
        obtain⟨k,hk,rfl,hbp,hall⟩:=hrel
        have HAll:=qAZ hall
        have HBp:Hid (Below w.heap.size w wp):=HBX.out.trans (hbp.mono hwf)
        have HFP:=qAZ hbp
        have hwp:=HBp.out.size
        have hKp:=qAc (qAc HKS.out HBf.out HKS.out.lt) hbp (by have:=HBf.out.size;have:=HKS.out.lt;omega)
        have hMp:=qAc (qAc HKM.out HBf.out HKM.out.lt) hbp (by have:=HBf.out.size;have:=HKM.out.lt;omega)
        have HKP:=qAZ hKp
        have HMP:=qAZ hMp
        have f0:wp.cell? ⟨w.heap.size+1,0,none⟩=some (.slice (some aF) nf cf):=hKp.cell 0
        clear hall hbp
        by_cases hlt:k<nf
        · as_aux_lemma=>
          have RS1:=qAZ (RS.out wp k HBp.out hlt (by omega))
          obtain⟨f,hf⟩:∃f,s.fr[k]? =some f:=⟨s.fr[k]'jx,qAa _⟩
          have HF:=qAZ hf
          obtain⟨_,P2,e2,P3,e3,ea,hFb,c0,c1,c2,c3,sq2,sq3,le2,lm2,le3,lm3,iF,-⟩:=qJB (qBD HSF.out HBp.out) hf
          have FLn:Hid (f.locs.length≤9223372036854775807∧f.stk.length≤9223372036854775807):=by unfold maxLen at lm2 lm3;exact⟨by omega,by omega⟩
          clear le2 lm2 le3 lm3
          injection ea with ea
          subst ea
          have kk0:(0:Int)≤(k:Int):=by omega
          have kk1:(k:Int)<(nf:Int):=by omega
          clear hf
          have st0:=HKP.out.cell 0
          have st1:=HKP.out.cell 1
          have st2:=HKP.out.cell 2
          have st3:=HKP.out.cell 3
          have st4:=HKP.out.cell 4
          have st5:=HKP.out.cell 5
          have st6:=HKP.out.cell 6
          have md0:=HMP.out.cell 0
          have md1:=HMP.out.cell 1
          have md2:=HMP.out.cell 2
          have md3:=HMP.out.cell 3
          have md4:=HMP.out.cell 4
          obtain⟨ll,hll⟩:∃x,f.locs.length=x:=⟨_,rfl⟩
          obtain⟨ls,hls⟩:∃x,f.stk.length=x:=⟨_,rfl⟩
          have HLL:=qAZ hll
          have HLS:=qAZ hls
          rw[hll] at c2
          rw[hls] at c3
          have HQ2:=qAZ sq2
          have HQ3:=qAZ sq3
          clear hll hls sq2 sq3
          have HBB:Hid (∀v,Below wp.heap.size wp v→Below w.heap.size w v):=fun v hb=>HBp.out.trans (hb.mono hwp)
          rcases hst:stackB m L s k with _|ts
          · have HNO1:=qAZ (qDQ (L:=L) HF.out hst)
            rw[hst] at RS1
            clear hst
            go_wp2_with (first
             |(go_at_call 38
               refine RS1.out.mono ?_
               rintro e w5 ⟨hb5,hat⟩
               have hat:e= .returned (.tuple #[.slice none 0 0,.bool false]):=hat
               subst hat
               have HB5:=qAZ (HBB.out w5 hb5)
               clear hb5))
            go_quiet (fail)
            go_wp2_with fail
            go_ret
            exact⟨by rw[HO.out,qC1 jx HNO1.out];rfl,HB5.out.trans ((qA7 _ _).mono HB5.out.size)⟩
          have HST:=qAZ hst
          rw[hst] at RS1
          clear hst
          obtain⟨u,hu⟩:=qEx HF.out HST.out
          obtain⟨j,p,fn,l,i,ej,-,hfn,-,-,-,-⟩:=qDV HR.out hu
          obtain⟨a,Q0,q0,Q1,q1,Q2,q2,rfl,hab,r0,r1,r2,r3,r4,ta,tl,-⟩:=qEg HS1.out hfn
          obtain⟨_,_,et,ta1,ta2,sa⟩:=ta
          simp only[List.cons.injEq,Value.slice.injEq,and_true] at et
          obtain⟨rfl,-,rfl⟩:=et
          obtain⟨_,_,et,tl1,tl2,sl⟩:=tl
          simp only[List.cons.injEq,Value.slice.injEq,and_true] at et
          obtain⟨rfl,-,rfl⟩:=et
          obtain⟨z1,z2,-,-⟩:=qBf HC.out (qAk hfn)
          have HFB:Hid (frameB m L s k=(allB s f.stk ts && allB s f.locs (fn.args++fn.locs))):=qC9 HF.out HST.out (by rw[ej];exact hfn)
          rw[ej] at c0
          obtain⟨ua,hua⟩:∃x,fn.args.length=x:=⟨_,rfl⟩
          obtain⟨ul,hul⟩:∃x,fn.locs.length=x:=⟨_,rfl⟩
          obtain⟨uc,huc⟩:∃x,fn.code.length=x:=⟨_,rfl⟩
          rw[hua] at r0 z1
          rw[hul] at r3 z2
          rw[huc] at r4
          have HUA:=qAZ hua
          have HUL:=qAZ hul
          have HSA:=qAZ sa
          have HSL2:=qAZ sl
          have HAA:=qAZ (sa.a64.app sl.a64)
          have j0:(0:Int)≤(j:Int):=by omega
          have j1:(j:Int)<(n1:Int):=by have:=(qAh.1 hfn).1;rw[HN1.out];omega
          have C0:=qAZ c0
          have C2:=qAZ c2
          have C3:=qAZ c3
          have R0:=qAZ r0
          have R1:=qAZ r1
          have R2:=qAZ r2
          have R3:=qAZ r3
          have R4:=qAZ r4
          clear hu ej hfn ta1 ta2 sa tl1 tl2 sl hua hul huc r0 r1 r2 r3 r4 c0 c1 c2 c3 hab
          go_upto_region 24 with(first
           |(go_at_call 38
             refine RS1.out.mono ?_
             rintro e w5 ⟨hb5,hat⟩
             obtain⟨T,ct,rfl,l1,l2,sqt⟩:∃A c,e= .returned (.tuple #[.slice A ts.length c,.bool true])∧ts.length≤c∧c≤maxLen∧Sq typL (·<wp.heap.size) wp A ts:=hat
             have HT5:=qAZ hb5
             have HB5:=qAZ (HBB.out w5 hb5)
             have HQT:=qAZ (qBD sqt hb5)
             obtain⟨lt,hlt5⟩:∃x,ts.length=x:=⟨_,rfl⟩
             have HLT:=qAZ hlt5
             rw[hlt5] at l1⊢
             clear hb5 sqt hlt5))
          clear st0 st1 st2 st3 st4 st5 st6 md0 md1 md2 md3 md4 f0
          obtain⟨ab,hab⟩:∃ab,allB s f.stk ts=ab:=⟨_,rfl⟩
          have HAB:=qAZ hab
          have hct:lt≤9223372036854775807:=by unfold maxLen at l2;omega
          have hlsb:ls≤9223372036854775807:=by rw[←HLS.out];exact FLn.out.2
          have hllb:ll≤9223372036854775807:=by rw[←HLL.out];exact FLn.out.1
          have RA1:Hid (∀v,Below w5.heap.size w5 v→Calls Tryz.prog 37 #[.agg #[.slice (some aF) nf cf,.slice O no co,.slice H nh ch,.int .i64 s.quota,.int .i64 s.used,.int .i64 s.fin,.int .u64 (s.val:Int)],.slice P3 ls e3,.slice T lt ct] v fun e w'=>e= .returned (.bool ab)∧Below v.heap.size v w'):=fun v hb1=>by
           have hv5:Below wp.heap.size wp v:=HT5.out.trans (hb1.mono HT5.out.size)
           have hv:Below w.heap.size w v:=HBB.out v hv5
           have:=qD4 (some aF) O H nf cf no co nh ch (.int .i64 s.quota) (.int .i64 s.used) (.int .i64 s.fin) (.int .u64 (s.val:Int)) s P3 T ls e3 lt ct f.stk ts v HNO.out HNH.out (qBD HSO.out hv) (qBD HSH.out hv) (by omega) (by omega) HLS.out HLT.out (qBD HQ3.out hv5) (qBD HQT.out hb1) hlsb hct
           rw[HAB.out] at this
           exact this
          have HK5:=qAc HKP.out HT5.out HKP.out.lt
          have v0:=cell_regrown (HK5.cell 0)
          have v1:=cell_regrown (HK5.cell 1)
          have v2:=cell_regrown (HK5.cell 2)
          have v3:=cell_regrown (HK5.cell 3)
          have v4:=cell_regrown (HK5.cell 4)
          have v5:=cell_regrown (HK5.cell 5)
          have v6:=cell_regrown (HK5.cell 6)
          have v7:=cell_regrown (qAt C3.out HT5.out)
          clear hab
          cases ab
          · have HNO1:Hid (frameB m L s k=false):=qEA HF.out HST.out HAB.out
            refine wp_region_quiet_below qV qV ?_
            repeat(quiet_step (first|with_reducible exact Calls.regrown_of (RA1.out _ (below_regrown _ _ _))))
            refine wpQuiet_nil ?_
            intro _ hw'
            obtain⟨⟨dq,osq⟩,hw''⟩:=hw'
            subst hw''
            go_wp2_with fail
            go_ret
            exact⟨by rw[HO.out,qC1 jx HNO1.out];rfl,HB5.out.trans ((below_regrown _ _ _).mono HB5.out.size)⟩
          refine wp_region_quiet_below qV qV ?_
          repeat(quiet_step (first|with_reducible exact Calls.regrown_of (RA1.out _ (below_regrown _ _ _))))
          refine wpQuiet_nil ?_
          intro _ hw'
          obtain⟨⟨dq,osq⟩,hw''⟩:=hw'
          subst hw''
          go_upto_region 26 with(fail)
          refine qAp fun X hX=> ?_
          have hTX:Below w5.heap.size w5 X:=by rw[hX];exact below_regrown _ _ _
          clear hX v0 v1 v2 v3 v4 v5 v6 v7 HK5
          have HTX:Hid (Below wp.heap.size wp X):=HT5.out.trans (hTX.mono HT5.out.size)
          have HX:=qAZ (HBB.out X HTX.out)
          have HSS:Hid (∀v,Below X.heap.size X v→v.cell? ⟨w.heap.size,1,none⟩=some (.slice (some a) n1 d1)∧v.cell? ⟨w.heap.size+1,0,none⟩=some (.slice (some aF) nf cf)∧v.cell? (aF.add (k*4))=some (.int .i64 (j:Int))∧v.cell? (a.add (j*5))=some (.slice Q0 ua q0)∧v.cell? ⟨(a.add (j*5)).block,(a.add (j*5)).off+1,none⟩=some (.int .i64 fn.ret.1)∧v.cell? ⟨(a.add (j*5)).block,(a.add (j*5)).off+2,none⟩=some (.int .i64 fn.ret.2)∧v.cell? ⟨(a.add (j*5)).block,(a.add (j*5)).off+3,none⟩=some (.slice Q1 ul q1)∧v.cell? ⟨(a.add (j*5)).block,(a.add (j*5)).off+4,none⟩=some (.slice Q2 uc q2)):=fun v hb=>by
           have h1:Below wp.heap.size wp v:=HTX.out.trans (hb.mono HTX.out.size)
           have h2:=HBB.out v h1
           exact⟨(qAc HMP.out h1 HMP.out.lt).cell 1,(qAc HKP.out h1 HKP.out.lt).cell 0,qAt C0.out h1,qAt R0.out h2,qAt R1.out h2,qAt R2.out h2,qAt R3.out h2,qAt R4.out h2⟩
          have SSX:=qAZ (HSS.out X (qAe _ _))
          have hXs:=HX.out.size
          clear hTX
          go_region_held3 (fun v=>v.cell? ⟨w.heap.size,1,none⟩=some (.slice (some a) n1 d1)∧v.cell? ⟨w.heap.size+1,0,none⟩=some (.slice (some aF) nf cf)∧v.cell? (aF.add (k*4))=some (.int .i64 (j:Int))∧v.cell? (a.add (j*5))=some (.slice Q0 ua q0)∧v.cell? ⟨(a.add (j*5)).block,(a.add (j*5)).off+1,none⟩=some (.int .i64 fn.ret.1)∧v.cell? ⟨(a.add (j*5)).block,(a.add (j*5)).off+2,none⟩=some (.int .i64 fn.ret.2)∧v.cell? ⟨(a.add (j*5)).block,(a.add (j*5)).off+3,none⟩=some (.slice Q1 ul q1)∧v.cell? ⟨(a.add (j*5)).block,(a.add (j*5)).off+4,none⟩=some (.slice Q2 uc q2))
           (first|exact HSS.out _ (qAe X.heap.size X).drew|exact HSS.out _ ((qAe X.heap.size X).drew.alloc (by simp) _)|exact HSS.out _ (((qAe X.heap.size X).drew.alloc (by simp) _).setCell (by simp) _))
           (fail)
          go_upto_region 27 with(fail)
          refine qAp fun Y hY=> ?_
          have hyb:Below X.heap.size X Y:=by rw[hY];exact((qAe _ _).alloc (qAf _) _).drew
          have hki:Blk Y X.heap.size 61 #[.slice Q0 ua q0,.int .i64 fn.ret.1,.int .i64 fn.ret.2,.slice Q1 ul q1,.slice Q2 uc q2]:=by rw[hY];exact(qAm rfl:Blk (X.alloc _) _ _ _)
          have HKI:=qAZ hki
          have HTY:Hid (Below wp.heap.size wp Y):=HTX.out.trans (hyb.mono HTX.out.size)
          have HY:=qAZ (HBB.out Y HTY.out)
          have hYs:=HY.out.size
          clear hY hyb hki HSS SSX
          obtain⟨Z,hZ⟩:∃Z,X.heap.size=Z:=⟨_,rfl⟩
          rw[hZ] at HKI⊢
          have HZ:Hid (Z<Y.heap.size):=HKI.out.lt
          clear hZ
          obtain⟨ac,hac⟩:∃ac,allB s f.locs (fn.args++fn.locs)=ac:=⟨_,rfl⟩
          have HAC:=qAZ hac
          clear hac
          have HCb:Hid (∀v,Below Y.heap.size Y v→v.cell? ⟨w.heap.size+1,0,none⟩=some (.slice (some aF) nf cf)∧v.cell? ⟨w.heap.size+1,1,none⟩=some (.slice O no co)∧v.cell? ⟨w.heap.size+1,2,none⟩=some (.slice H nh ch)∧v.cell? ⟨w.heap.size+1,3,none⟩=some (.int .i64 s.quota)∧v.cell? ⟨w.heap.size+1,4,none⟩=some (.int .i64 s.used)∧v.cell? ⟨w.heap.size+1,5,none⟩=some (.int .i64 s.fin)∧v.cell? ⟨w.heap.size+1,6,none⟩=some (.int .u64 (s.val:Int))∧v.cell? ⟨(aF.add (k*4)).block,(aF.add (k*4)).off+2,none⟩=some (.slice P2 ll e2)∧v.cell? ⟨Z,0,none⟩=some (.slice Q0 ua q0)∧v.cell? ⟨Z,3,none⟩=some (.slice Q1 ul q1)):=fun v hb=>by
           have h1:Below wp.heap.size wp v:=HTY.out.trans (hb.mono HTY.out.size)
           have hk1:=qAc HKP.out h1 HKP.out.lt
           have hk2:=qAc HKI.out hb HKI.out.lt
           exact⟨hk1.cell 0,hk1.cell 1,hk1.cell 2,hk1.cell 3,hk1.cell 4,hk1.cell 5,hk1.cell 6,qAt C2.out h1,hk2.cell 0,hk2.cell 3⟩
          have HC0:=qAZ (HCb.out Y (qAe _ _))
          have HOE:Hid ((Y.alloc (.cells #[] 58)).drew.ownsRow Y.heap.size 58 2 (.slice (some ⟨Y.heap.size,0,none⟩) 0 0) 0 (T2 [])):=qB2 Y
          go_region_held3 (fun v=>v.cell? ⟨w.heap.size+1,0,none⟩=some (.slice (some aF) nf cf)∧v.cell? ⟨w.heap.size+1,1,none⟩=some (.slice O no co)∧v.cell? ⟨w.heap.size+1,2,none⟩=some (.slice H nh ch)∧v.cell? ⟨w.heap.size+1,3,none⟩=some (.int .i64 s.quota)∧v.cell? ⟨w.heap.size+1,4,none⟩=some (.int .i64 s.used)∧v.cell? ⟨w.heap.size+1,5,none⟩=some (.int .i64 s.fin)∧v.cell? ⟨w.heap.size+1,6,none⟩=some (.int .u64 (s.val:Int))∧v.cell? ⟨(aF.add (k*4)).block,(aF.add (k*4)).off+2,none⟩=some (.slice P2 ll e2)∧v.cell? ⟨Z,0,none⟩=some (.slice Q0 ua q0)∧v.cell? ⟨Z,3,none⟩=some (.slice Q1 ul q1))
           (first|exact SS3.out|exact SS2.out|exact SS1.out|exact HC0.out|exact HCb.out _ (qAj Y _).drew|exact HCb.out _ (qAj Y _)|exact HCb.out _ (qAe Y.heap.size Y).drew)
           (first
           |(with_reducible refine qBY (.tmp 260) (.tmp 262) 56 ?_
             refine qBs _ rfl (.tmp 260) (.tmp 262) rfl Y.heap.size (.slice (some ⟨Y.heap.size,0,none⟩) 0 0) 0 [] rfl HOE.out Q0 ua q0 fn.args rfl HUA.out _ ((qBD HSA.out HY.out).below (qAj Y _).drew (qAf _)) (by omega) (by simp) ?_
             intro v1 w1 hown1 hg1 ha1
             have HO1:=qAZ hown1
             have HB1:=qAZ ((qAj Y _).drew.grown hg1 (by simp) (fun i hi=>(HOE.out.lt i hi).1))
             have SS1:=qAZ (HCb.out _ HB1.out)
             have hs1:=HB1.out.size
             clear hown1 hg1 ha1)
           |(with_reducible refine qBY (.tmp 263) (.tmp 265) 56 ?_
             refine qBs _ rfl (.tmp 263) (.tmp 265) rfl Y.heap.size v1 (0+ua) ([]++fn.args) rfl HO1.out Q1 ul q1 fn.locs rfl HUL.out _ ((qBD HSL2.out HY.out).below HB1.out (qAf _)) (by omega) hs1 ?_
             intro v2 w2 hown2 hg2 ha2
             obtain⟨A,cA,rfl,hlA,hlc,hcm,hsq⟩:=qC7 hown2 (by simpa using HAA.out)
             rw[List.nil_append] at hsq
             have HB2:=qAZ (HB1.out.grown hg2 hs1 (fun i hi=>(HO1.out.lt i hi).1))
             have SS2:=qAZ (HCb.out _ HB2.out)
             have hs2:=HB2.out.size
             have hv2:Below wp.heap.size wp w2:=HTY.out.trans (HB2.out.mono HTY.out.size)
             have hv:Below w.heap.size w w2:=HBB.out w2 hv2
             have ra:=qD4 (some aF) O H nf cf no co nh ch (.int .i64 s.quota) (.int .i64 s.used) (.int .i64 s.fin) (.int .u64 (s.val:Int)) s P2 A ll e2 (ua+ul) cA f.locs (fn.args++fn.locs) w2 HNO.out HNH.out (qBD HSO.out hv) (qBD HSH.out hv) (by omega) (by omega) HLL.out (by rw[List.length_append,HUA.out,HUL.out]) (qBD HQ2.out hv2) (hsq.wide fun b hb=>hb.2) hllb (by unfold maxLen at hcm;omega)
             rw[HAC.out] at ra
             have RA2:=qAZ ra
             clear hown2 hg2 ha2 hsq hlA hlc hcm hv2 hv ra)
           |(go_at_call 37
             with_reducible refine RA2.out.mono ?_
             rintro e w3 ⟨rfl,hb3⟩
             have HB3:Hid (Below Y.heap.size Y w3):=HB2.out.trans (hb3.mono hs2)
             have SS3:=qAZ (HCb.out _ HB3.out)
             clear hb3))
          cases ac
          · have HNO1:Hid (frameB m L s k=false):=by show _=_;rw[HFB.out,HAB.out,HAC.out];rfl
            go_wp2_with fail
            go_ret
            exact⟨by rw[HO.out,qC1 jx HNO1.out];rfl,HY.out.trans (HB3.out.mono hYs)⟩
          have HYE:Hid (frameB m L s k=true):=by show _=_;rw[HFB.out,HAB.out,HAC.out];rfl
          go_wp2_with fail
          refine⟨⟨k+1,by omega,by simp,HFP.out.trans ((HTY.out.trans (HB3.out.mono HTY.out.size)).mono HFP.out.size),fun i hi=> ?_⟩,by simp[intOf];omega⟩
          by_cases e:i=k
          · subst e
            exact HYE.out
          · exact HAll.out i (by omega)
        · have ek:nf=k:=by omega
          subst ek
          go_wp2_with fail
          go_ret
          exact⟨by rw[HO.out,qD9 fun j hj=>HAll.out j (by rw[←HNF.out];exact hj)];rfl,HBp.out⟩
end Go.Proofs.YtconajaecpgjgaaGreat
