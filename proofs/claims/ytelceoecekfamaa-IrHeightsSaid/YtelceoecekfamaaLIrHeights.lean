/-
  The law IrHeights holds: where one instruction leads to the next one, that one's registers end where the first one's do; the law's function returns true and turns nothing that was there.
  Conditions: none.
-/
import Derived.Test.YtelceoecekfamaaQ01
import Derived.Test.YtelceoecekfamaaQ02
import Derived.Test.YtelceoecekfamaaQ06
import Derived.Test.YtelceoecekfamaaQ17
import Derived.Test.YtelceoecekfamaaQ24
import Derived.Test.YtelceoecekfamaaQ25
import Derived.Test.YtelceoecekfamaaQ26
import Derived.BigQuiet
import Derived.BigRegion
import Derived.Deep.RegionHeld3
namespace Go.Proofs.Ytelceoecekfamaa.irHeights
open Go.ChangeShapes Go.WideShapes Go.ChangeAt Go.RowKit
set_option linter.unusedVariables false
set_option linter.unusedSimpArgs false
set_option maxRecDepth 100000 in
set_option maxHeartbeats 8000000 in
theorem walk (cs:List Value) (m:Mod) (w:World) (h:modL.R (·<w.heap.size) w cs m) (hz:Zm m):
 Calls Try.prog 4 #[vAgg cs] w fun e w'=>e= .returned (.bool true)∧Below w.heap.size w w':=by
 refine zu ?_;intro AN L0 CK
 have MA:Hid (checkN m=0→∀w1,Below w.heap.size w w1→Calls Try.prog 10 #[vAgg cs] w1 (RMaps m w1)):=fun hc w1 hb=>qGy qDz cs m w1 (qA0 h hb) hc
 have RF:Hid (∀v (j p:Nat) (D:Option Addr) (k g:Nat) (ts:List Typ) (fn:Fn) (i:Ins),Below w.heap.size w v→checkN m=0→m.funcs[j]? =some fn→fn.code[p]? =some i→ts.length=k→Sq typL (·<v.heap.size) v D ts→k≤1000→k≤g→g≤9223372036854775807→(D=none→g=0)→Calls Try.prog 11 #[vAgg cs,.int .i64 (j:Int),.int .i64 (p:Int),.slice D k g] v (RFlows (insB8 m fn i p ts) v)):=
  fun v j p D k g ts fn i hb h1 h2 h3 h4 h5 h6 h7 h8 h9=>qEq qDz cs m j p D k g ts v (qA0 h hb) fn i.1 i.2.1 i.2.2 h1 h2 h3 h4 h5 h6 h7 h8 h9
 have HLn:Hid (∀A0 A1 A2 A3 A4 n0 n1 n2 n3 n4 c0 c1 c2 c3 c4,cs=[.slice A0 n0 c0,.slice A1 n1 c1,.slice A2 n2 c2,.slice A3 n3 c3,.slice A4 n4 c4]→m.funcs.length=n1):=fun A0 A1 A2 A3 A4 n0 n1 n2 n3 n4 c0 c1 c2 c3 c4 e=>by
  obtain⟨_,_,_,_,_,rfl,-,⟨B,d,e1,-⟩,-⟩:=h
  simp only[List.cons.injEq,and_true] at e e1
  have:=e1.symm.trans e.2.1
  injection this
 obtain⟨A0,A1,A2,A3,A4,n0,n1,n2,n3,n4,c0,c1,c2,c3,c4,hcs⟩:=qBH h
 have hn1:=HLn.out _ _ _ _ _ _ _ _ _ _ _ _ _ _ _ hcs
 have HN1:=qAF hn1
 subst hcs
 clear h hz HLn hn1
 simp only[vAgg] at L0 CK MA RF⊢
 go_enter Try.func4,Try.ntmps4
 go_wp2_with fail
 refine qBR fun W hW=> ?_
 refine jB ?_;intro HB0 HC0 hzW
 clear hW
 refine jC ?_;intro HCV HBB
 refine(L0.out W HB0.out).mono ?_
 rintro e V ⟨b,rfl,hb1,-⟩
 have HB1:=qAF hb1
 obtain⟨x0,x1,x2,x3,x4⟩:=HCV.out V hb1
 clear hb1
 cases b
 · exact qi
 go_wp2_with fail
 refine(CK.out V (HBB.out _ HB1.out)).mono ?_
 intro e w2 hch
 obtain⟨hb2,⟨er,rfl,hne,-⟩|⟨hc,hm,L,q,g,hL,rfl,hq,hR,hG⟩⟩:=qB1 hch
 · exact qR
 refine jU ?_;intro HB2
 have HL:=qAF hL
 have HC:=qAF hc
 have HG2:=qAF hG
 have HR2:=qAF hR
 obtain⟨n,hn⟩:∃n,L.length=n:=⟨_,rfl⟩
 have HN:=qAF hn
 have hn8:n≤8:=by have:=(qAW.1 (qAT hc)).f8;rw[←hn,hL.len];omega
 have hq0:=hq
 have hs2:=hb2.size
 have hs1:=HB1.out.size
 rw[hn]
 clear hch hb2 hR hG hm hn hq x0 x1 x2 x3 x4
 obtain⟨x0,x1,x2,x3,x4⟩:=HCV.out w2 HB2.out
 have MA1:=qAF (MA.out hc w2 (HBB.out _ HB2.out))
 clear hc hL MA
 go_wp2_with fail
 refine MA1.out.mono ?_
 intro e w3 hrm
 obtain⟨hb3,⟨hN,-⟩|⟨L',A',c',hL',rfl,⟨A'',c'',e1,-,hcm,hsq⟩⟩⟩:=hrm
 · exact absurd hN HL.out.right.never
 obtain rfl:=HL.out.same hL'
 simp only[List.cons.injEq,Value.slice.injEq,and_true,true_and] at e1
 obtain⟨rfl,rfl⟩:=e1
 have HB3:=qAF (HB2.out.trans (hb3.mono HB2.out.size))
 have HQ:=qAF (HR2.out.below hb3 HR2.out.lt)
 have HG:=qAF (HG2.out.below hb3)
 have HSq:=qAF hsq
 have hs3:=hb3.size
 unfold maxLen at hcm
 have hcm':c'≤9223372036854775807:=by omega
 have HWV:Hid (∀v,Below w3.heap.size w3 v→Below W.heap.size W v):=fun v hb=>HB3.out.trans (hb.mono HB3.out.size)
 rw[HN.out]
 clear hb3 hL' hsq hcm x0 x1 x2 x3 x4
 go_wp2_with fail
 go_loopw [7] (fun i wr=>∃k:Nat,k≤n∧i= .int .i64 (k:Nat)∧Below w3.heap.size w3 wr) (fun i _=>n-(intOf i).toNat)
 case atStart=>exact⟨0,qAQ _,rfl,qAJ _ _⟩
 case round=>
  obtain⟨wf,eW⟩:∃wf,wf=wr:=⟨_,rfl⟩
  subst eW
  obtain⟨k,hk,rfl,hbf⟩:=hrel
  have HBf:=qAF hbf
  clear hbf
  by_cases hlt:k<n
  · obtain⟨fn,hfn⟩:∃fn,m.funcs[k]? =some fn:=⟨m.funcs[k]'(by rw[←HL.out.len,HN.out];exact hlt),List.getElem?_eq_getElem _⟩
    obtain⟨l,hl⟩:∃l,L[k]? =some l:=⟨L[k]'(by rw[HN.out];exact hlt),List.getElem?_eq_getElem _⟩
    have hLe:=HL.out.at_ k fn l hfn hl
    have k0:(0:Int)≤(k:Int):=by omega
    have k1:(k:Int)<(n:Int):=by omega
    have hkL:k<L.length:=by rw[HN.out];exact hlt
    have hl64:=qEO HC.out HL.out hkL
    obtain⟨aL,D,dl,rfl,hab,hcl,hld,hdm,hSl⟩:=qGU HSq.out hl
    obtain⟨len,hlen⟩:∃len,lenF L k=len:=⟨_,rfl⟩
    have hll:l.length=len:=by rw[←hlen];simp[lenF,hl]
    obtain⟨B,hB⟩:∃B,g k=B:=⟨_,rfl⟩
    have HCk:Hid (∀v,Below w3.heap.size w3 v→v.cell? ⟨q,k,none⟩=some (.slice (some ⟨B,0,none⟩) len len)):=fun v hb=>by
     have:=((HQ.out.below hb HQ.out.lt).cell (i:=k) (by simpa using hkL))
     rw[this,celS,if_pos hkL,hlen,hB]
    have HRk:Hid (∀v,Below w3.heap.size w3 v→∀p c,p<len→c<6→v.cell? ⟨B,p*6+c,none⟩=some (.int .i64 (rowF m L k p c))):=fun v hb p c hp hc6=>by
     have:=((HG.out.row k hkL).below hb (HG.out.row k hkL).lt).cell (i:=p*6+c) (by rw[hlen];omega)
     rw[hB] at this
     rw[this,cel6,show(p*6+c) / 6=p by omega,show(p*6+c) % 6=c by omega]
    have HFit:Hid (∀p,0≤rowF m L k p 3∧0≤rowF m L k p 4∧0≤rowF m L k p 5∧rowF m L k p 3+rowF m L k p 4≤20∧rowF m L k p 3+rowF m L k p 5≤20):=fun p=>by
     have:=qGT HL.out hfn p
     have:=qAv HC.out (qAK hfn)
     omega
    rw[hll] at hcl hld
    have HMc:Hid (∀v,Below w3.heap.size w3 v→v.cell? (aL.add k)=some (.slice D len dl)):=fun v hb=>(hb.cell (p:=aL.add k) qA).trans hcl
    have HLe:=qAF hLe
    have HLl:=qAF hl
    have HLm:=qAF hll
    have HFn:=qAF hfn
    have HSl:=qAF hSl
    unfold maxLen at hdm
    have hdm':dl≤9223372036854775807:=by omega
    rw[hlen] at hl64
    clear hfn hl hLe hkL hlen hB hll hab hcl hSl hdm
    go_wp2_with fail
    go_loopw [8] (fun i wr=>∃p:Nat,p≤len∧i= .int .i64 (p:Nat)∧Below w3.heap.size w3 wr) (fun i _=>len-(intOf i).toNat)
    case atStart=>exact⟨0,qAQ _,rfl,HBf.out⟩
    case round=>
     obtain⟨y,eY⟩:∃y,y=wr:=⟨_,rfl⟩
     subst eY
     obtain⟨p,hp,rfl,hby⟩:=hrel
     have HBy:=qAF hby
     have z:=HCk.out y hby
     have z2:=HMc.out y hby
     clear hby
     by_cases hlp:p<len
     · have p0:(0:Int)≤(p:Int):=by omega
       have p1:(p:Int)<(len:Int):=by omega
       refine qAA ?_;intro sn st hsh i hin
       obtain⟨a2,D2,c2',rfl,ha2,hb0,hb1,hc1,hc2,hn2,hst⟩:=qHp HSl.out hsh
       refine jm ?_;intro b0 b1 HSh HIn HSt
       unfold maxLen at hc2
       have hc2':c2'≤9223372036854775807:=by omega
       simp only at b0 b1 hc1
       clear hsh hin hst hc2
       cases sn
       · go_wp2_with fail
         exact⟨⟨p+1,by omega,by simp,HBy.out⟩,by simp[intOf];omega⟩
       obtain⟨i',t,ks,hi',hins,-⟩:=HLe.out.ok p zV st (qAV HSh.out)
       obtain rfl:i'=i:=by rw[HIn.out] at hi';injection hi' with hi';exact hi'.symm
       have hs8:st.length≤8:=(HLe.out.run.can p st (qAV HSh.out)).2
       have HHt:Hid (∀x,x∈ks→0≤x∧x.toNat<len∧rowF m L k p 3+rowF m L k p 5=rowF m L k x.toNat 3+rowF m L k x.toNat 4):=fun x hx=>by
        rw[←HLm.out]
        exact qEn HC.out HL.out HFn.out HLl.out HSh.out HIn.out hins hx
       have CA:Hid (∀v,Below y.heap.size y v→Calls Try.prog 11 #[.agg #[.slice A0 n0 c0,.slice A1 n1 c1,.slice A2 n2 c2,.slice A3 n3 c3,.slice A4 n4 c4],.int .i64 (k:Int),.int .i64 (p:Int),.slice D2 st.length c2'] v (RFlows (0,t,ks) v)):=fun v hv=>by
        have hv2:Below w3.heap.size w3 v:=HBy.out.trans (hv.mono HBy.out.size)
        have:=RF.out v k p D2 st.length c2' st fn i' (HBB.out _ (HWV.out _ hv2)) HC.out HFn.out HIn.out rfl ((HSt.out.below hv2 (qAI _)).wide fun b hb=>qAG hb hv2.size) (by omega) hc1 hc2' hn2
        rwa [hins] at this
       have HLd:Hid (∀v,Below y.heap.size y v→v.cell? ⟨w.heap.size,0,none⟩=some (.slice A0 n0 c0)∧v.cell? ⟨w.heap.size,1,none⟩=some (.slice A1 n1 c1)∧v.cell? ⟨w.heap.size,2,none⟩=some (.slice A2 n2 c2)∧v.cell? ⟨w.heap.size,3,none⟩=some (.slice A3 n3 c3)∧v.cell? ⟨w.heap.size,4,none⟩=some (.slice A4 n4 c4)∧v.cell? (aL.add k)=some (.slice (some a2) len dl)∧v.cell? ⟨(a2.add (p*2)).block,(a2.add (p*2)).off+1,none⟩=some (.slice D2 st.length c2')):=fun v hv=>by
        have hv2:Below w3.heap.size w3 v:=HBy.out.trans (hv.mono HBy.out.size)
        obtain⟨p0,p1,p2,p3,p4⟩:=HCV.out v (HWV.out _ hv2)
        exact⟨p0,p1,p2,p3,p4,HMc.out v hv2,(hv.cell (p:=⟨(a2.add (p*2)).block,(a2.add (p*2)).off+1,none⟩) (qAO _ _ b1)).trans b1⟩
       have SD:=qAF (HLd.out y.drew (qAJ _ y).drew)
       have HK2:Hid (ks.length≤2):=ins_two hins
       clear hins hi'
       go_wp2_with fail
       go_region_held3 (fun v=>v.cell? ⟨w.heap.size,0,none⟩=some (.slice A0 n0 c0)∧v.cell? ⟨w.heap.size,1,none⟩=some (.slice A1 n1 c1)∧v.cell? ⟨w.heap.size,2,none⟩=some (.slice A2 n2 c2)∧v.cell? ⟨w.heap.size,3,none⟩=some (.slice A3 n3 c3)∧v.cell? ⟨w.heap.size,4,none⟩=some (.slice A4 n4 c4)∧v.cell? (aL.add k)=some (.slice (some a2) len dl)∧v.cell? ⟨(a2.add (p*2)).block,(a2.add (p*2)).off+1,none⟩=some (.slice D2 st.length c2'))
        (first|with_reducible exact SS5.out|with_reducible exact SD.out)
        (first
        |(go_at_call 11
          refine(CA.out _ (qAJ _ y).drew).mono ?_
          rintro e w5 ⟨hb5,A5,d5,B5,e5,rfl,-,hto,-⟩
          have HB5:Hid (Below y.heap.size y w5):=(by show Below _ _ _;exact(qAJ _ y).drew.trans (hb5.mono (by simp)))
          have SS5:=qAF (HLd.out _ HB5.out)
          have HTo:=qAF hto
          clear hb5 hto))
       obtain⟨nk,hnk⟩:∃nk,ks.length=nk:=⟨_,rfl⟩
       have hnk2:nk≤2:=by rw[←hnk];exact HK2.out
       have HNk:=qAF hnk
       have HTo2:=HTo.out
       have HTC:Hid (∀(j:Nat) x,ks[j]? =some x→∃a,B5=some a∧a.block<w5.heap.size∧w5.cell? (a.add j)=some (.int .i64 x)):=HTo2
       clear HTo2 HTo SD CA
       rw[hnk]
       clear hnk b0 b1 z z2
       simp only[Exit.inBlock,Exit.then]
       go_wp2_with fail
       go_loopw [12] (fun i wr=>∃r:Nat,r≤nk∧i= .int .i64 (r:Nat)∧Below y.heap.size y wr∧Below w5.heap.size w5 wr) (fun i _=>nk-(intOf i).toNat)
       case atStart=>exact⟨0,qAQ _,rfl,HB5.out,qAJ _ _⟩
       case round=>
        obtain⟨u,eU⟩:∃u,u=wr:=⟨_,rfl⟩
        subst eU
        obtain⟨r,hr,rfl,hbu,hbu5⟩:=hrel
        have HBu:=qAF hbu
        have HBu5:=qAF hbu5
        clear hbu hbu5
        by_cases hlr:r<nk
        · obtain⟨x,hx⟩:∃x,ks[r]? =some x:=⟨ks[r]'(by rw[HNk.out];exact hlr),List.getElem?_eq_getElem _⟩
          obtain⟨h0,hxl,hxe⟩:=HHt.out x (qAK hx)
          obtain⟨x',ex⟩:∃x':Nat,x=(x':Int):=⟨x.toNat,by omega⟩
          subst ex
          obtain⟨aT,rfl,haT,hcT⟩:=HTC.out r _ hx
          rw[Int.toNat_natCast] at hxl hxe
          have cT:=(HBu5.out.cell (p:=aT.add r) (by rw[qAU];exact haT)).trans hcT
          have hB3u:Below w3.heap.size w3 u:=HBy.out.trans (HBu.out.mono HBy.out.size)
          have cq:=HCk.out u hB3u
          have d0:=HRk.out u hB3u p 0 hlp (by omega)
          rw[Nat.add_zero] at d0
          have d1:=HRk.out u hB3u p 1 hlp (by omega)
          have d2:=HRk.out u hB3u p 2 hlp (by omega)
          have d3:=HRk.out u hB3u p 3 hlp (by omega)
          have d4:=HRk.out u hB3u p 4 hlp (by omega)
          have d5:=HRk.out u hB3u p 5 hlp (by omega)
          have e0:=HRk.out u hB3u x' 0 hxl (by omega)
          rw[Nat.add_zero] at e0
          have e1:=HRk.out u hB3u x' 1 hxl (by omega)
          have e2:=HRk.out u hB3u x' 2 hxl (by omega)
          have e3:=HRk.out u hB3u x' 3 hxl (by omega)
          have e4:=HRk.out u hB3u x' 4 hxl (by omega)
          have e5:=HRk.out u hB3u x' 5 hxl (by omega)
          have f1:=HFit.out p
          have f2:=HFit.out x'
          generalize rowF m L k p 0=r0 at*
          generalize rowF m L k p 1=r1 at*
          generalize rowF m L k p 2=r2 at*
          generalize rowF m L k p 3=r3 at*
          generalize rowF m L k p 4=r4 at*
          generalize rowF m L k p 5=r5 at*
          generalize rowF m L k x' 0=s0 at*
          generalize rowF m L k x' 1=s1 at*
          generalize rowF m L k x' 2=s2 at*
          generalize rowF m L k x' 3=s3 at*
          generalize rowF m L k x' 4=s4 at*
          generalize rowF m L k x' 5=s5 at*
          have r0':(0:Int)≤(r:Int):=by omega
          have r1':(r:Int)<(nk:Int):=by omega
          have x0':(0:Int)≤(x':Int):=by omega
          have x1':(x':Int)<(len:Int):=by omega
          have hw1:IntKind.i64.wrap (r3+r5)=r3+r5:=by rw[qAS];omega
          have hw2:IntKind.i64.wrap (s3+s4)=r3+r5:=by rw[qAS];omega
          have hqu:q<u.heap.size:=qAO _ _ cq
          have hBu:B<u.heap.size:=qAO _ _ d0
          have hTu:(aT.add r).block<u.heap.size:=qAO _ _ cT
          have hTu2:aT.block<u.heap.size:=by rw[qAU] at hTu;exact hTu
          have hqn:(q=u.heap.size)=False:=eq_false (by omega)
          have hBn:(B=u.heap.size)=False:=eq_false (by omega)
          have hTn:(aT.block=u.heap.size)=False:=eq_false (by omega)
          have hTn2:((aT.add r).block=u.heap.size)=False:=eq_false (by omega)
          have hqn1:(q=u.heap.size+1)=False:=eq_false (by omega)
          have hBn1:(B=u.heap.size+1)=False:=eq_false (by omega)
          have hTn1:(aT.block=u.heap.size+1)=False:=eq_false (by omega)
          have hTn3:((aT.add r).block=u.heap.size+1)=False:=eq_false (by omega)
          clear f1 f2 hxe h0 hxl hx haT hcT hB3u
          go_wp2_with fail
          have HLu:Hid (∀v,Below u.heap.size u v→v.cell? ⟨q,k,none⟩=some (.slice (some ⟨B,0,none⟩) len len)∧v.cell? (aT.add r)=some (.int .i64 (x':Int))∧v.cell? ⟨B,p*6,none⟩=some (.int .i64 r0)∧v.cell? ⟨B,p*6+1,none⟩=some (.int .i64 r1)∧v.cell? ⟨B,p*6+2,none⟩=some (.int .i64 r2)∧v.cell? ⟨B,p*6+3,none⟩=some (.int .i64 r3)∧v.cell? ⟨B,p*6+4,none⟩=some (.int .i64 r4)∧v.cell? ⟨B,p*6+5,none⟩=some (.int .i64 r5)∧v.cell? ⟨B,x'*6,none⟩=some (.int .i64 s0)∧v.cell? ⟨B,x'*6+1,none⟩=some (.int .i64 s1)∧v.cell? ⟨B,x'*6+2,none⟩=some (.int .i64 s2)∧v.cell? ⟨B,x'*6+3,none⟩=some (.int .i64 s3)∧v.cell? ⟨B,x'*6+4,none⟩=some (.int .i64 s4)∧v.cell? ⟨B,x'*6+5,none⟩=some (.int .i64 s5)):=fun v hv=>⟨(hv.cell (p:=⟨q,k,none⟩) hqu).trans cq,(hv.cell (p:=aT.add r) hTu).trans cT,(hv.cell (p:=⟨B,p*6,none⟩) hBu).trans d0,(hv.cell (p:=⟨B,p*6+1,none⟩) hBu).trans d1,(hv.cell (p:=⟨B,p*6+2,none⟩) hBu).trans d2,(hv.cell (p:=⟨B,p*6+3,none⟩) hBu).trans d3,(hv.cell (p:=⟨B,p*6+4,none⟩) hBu).trans d4,(hv.cell (p:=⟨B,p*6+5,none⟩) hBu).trans d5,(hv.cell (p:=⟨B,x'*6,none⟩) hBu).trans e0,(hv.cell (p:=⟨B,x'*6+1,none⟩) hBu).trans e1,(hv.cell (p:=⟨B,x'*6+2,none⟩) hBu).trans e2,(hv.cell (p:=⟨B,x'*6+3,none⟩) hBu).trans e3,(hv.cell (p:=⟨B,x'*6+4,none⟩) hBu).trans e4,(hv.cell (p:=⟨B,x'*6+5,none⟩) hBu).trans e5⟩
          have SU:=qAF (HLu.out u.drew (qAJ _ u).drew)
          clear cq cT d0 d1 d2 d3 d4 d5 e0 e1 e2 e3 e4 e5 hqu hBu hTu hTu2 hqn hBn hTn hTn2 hqn1 hBn1 hTn1 hTn3
          go_region_held3 (fun v=>v.cell? ⟨q,k,none⟩=some (.slice (some ⟨B,0,none⟩) len len)∧v.cell? (aT.add r)=some (.int .i64 (x':Int))∧v.cell? ⟨B,p*6,none⟩=some (.int .i64 r0)∧v.cell? ⟨B,p*6+1,none⟩=some (.int .i64 r1)∧v.cell? ⟨B,p*6+2,none⟩=some (.int .i64 r2)∧v.cell? ⟨B,p*6+3,none⟩=some (.int .i64 r3)∧v.cell? ⟨B,p*6+4,none⟩=some (.int .i64 r4)∧v.cell? ⟨B,p*6+5,none⟩=some (.int .i64 r5)∧v.cell? ⟨B,x'*6,none⟩=some (.int .i64 s0)∧v.cell? ⟨B,x'*6+1,none⟩=some (.int .i64 s1)∧v.cell? ⟨B,x'*6+2,none⟩=some (.int .i64 s2)∧v.cell? ⟨B,x'*6+3,none⟩=some (.int .i64 s3)∧v.cell? ⟨B,x'*6+4,none⟩=some (.int .i64 s4)∧v.cell? ⟨B,x'*6+5,none⟩=some (.int .i64 s5))
           (first|with_reducible exact SU.out|(refine HLu.out _ ?_;repeat(first|with_reducible exact qAJ _ _|with_reducible refine Below.drew ?_|with_reducible refine Below.alloc ?_ qU _|with_reducible refine Below.setCell ?_ qU _)))
           (fail)
          all_goals
           simp only[Exit.then]
           go_wp2_with fail
           refine(fun hbw=>⟨⟨r+1,by omega,by simp,HBu.out.trans (hbw.mono HBu.out.size),HBu5.out.trans (hbw.mono HBu5.out.size)⟩,by simp[intOf];omega⟩:∀_:Below u.heap.size u _,_) ?_
           repeat(first|with_reducible exact qAJ _ _|with_reducible refine Below.drew ?_|with_reducible refine Below.alloc ?_ qU _|with_reducible refine Below.setCell ?_ qU _)
        · obtain rfl:r=nk:=by omega
          go_wp2_with fail
          exact⟨⟨p+1,by omega,by simp,HBy.out.trans (HBu.out.mono HBy.out.size)⟩,by simp[intOf];omega⟩
     · obtain rfl:p=len:=by omega
       go_wp2_with fail
       exact⟨⟨k+1,by omega,by simp,HBy.out⟩,by simp[intOf];omega⟩
  · obtain rfl:k=n:=by omega
    go_wp2_with (first|(go_at_call 7;refine(AN.out _).mono ?_;rintro e w5 ⟨rfl,hb5⟩;have HB5:=qAF (HBf.out.trans (hb5.mono HBf.out.size));clear hb5))
    go_ret
    exact⟨rfl,HBB.out _ (HWV.out _ HB5.out)⟩
set_option maxRecDepth 100000 in
theorem lifted (os:Os) (started:os.Started) (H:Type) (enc:TypeId×Value→H):
 ReturnsInHanded {} Try.checked os 4 .any (Rows.irHeightsSpec.pre6 enc Try.prog Try.f4 Rows.irHeightsRow.domain false) (Rows.irHeightsSpec.post enc Try.prog Try.f4 false true false false):=by
 refine returnsInHanded_of_change_sized (C:=Try.checked) own started qL Try.func4
  (ChangeSpec.witness6 (enc:=enc) (C:=Try.checked) false ⟨#[],#[.agg #[.slice none 0 0,.slice none 0 0,.slice none 0 0,.slice none 0 0,.slice none 0 0]],[]⟩ 8 qL qL qL qL) ?_
 intro W base args ds gs before hval0 hW hcnd hwz _
 have hval:∀(j:Nat) t v,Try.f4.params[j]? =some t→args[j]? =some v→Value.okWide Try.prog W .any base t v:=hval0
 have hW':=hW
 obtain⟨p,q,hA0,hV,rfl,hfz,hnd⟩:=hW
 have hA:DataW.TrodAll enc Try.prog W 0 (fun _=>true) true Try.f4.params.toList args.toList ds p:=hA0
 rw[Try.params4] at hA hval
 obtain⟨v0,vs0,d0,ds0,p0,q0,hargs,rfl,rfl,h0,r0⟩:=trodAll_cons hA
 obtain⟨rfl,rfl,rfl⟩:=trodAll_nil r0
 obtain rfl:args= #[v0]:=by cases args;simp_all
 obtain⟨rfl,rfl⟩:=trodVars_none hV
 refine jF ?_;intro lt0 hwz0
 obtain⟨cs0,m0,rfl,hm0,hz0⟩:=qCW h0 hwz0
 clear hA0 hval0
 refine(walk cs0 m0 W hm0 hz0).mono fun e W' ⟨he,bel⟩=> ?_
 subst he
 exact⟨_,rfl,_,_,_,[],_,[],hW',trodAll_mk1 (shut_bool Try.underlying4 _),(trodAll_cons_mk (Below.trod qEP qL (of_decide_eq_true qL) h0 bel lt0) trodAll_mk0),rfl,bel.frame _,fun h=>by cases h⟩
theorem over:Rows.irHeightsRow.holds Try.pinned (OpenSpec.ofChange Rows.irHeightsSpec):=
 OpenClaim.holds_of_wide 4 Try.f4 rfl rfl rfl rfl rfl rfl rfl ⟨rfl,rfl,rfl,rfl,rfl⟩ rfl rfl rfl rfl rfl qL Try.func4 qL
  (of_decide_eq_true qL) qt
  (fun os started H enc _=>lifted os started H enc)
/-- The statement. -/
theorem proved:Rows.IrHeightsSaid:=over
end Go.Proofs.Ytelceoecekfamaa.irHeights
