/-
Vrr
-/
import Derived.Test.YtconajaecpgjgaaGreatT07
import Derived.Test.YtconajaecpgjgaaGreatT15
import Derived.Test.YtconajaecpgjgaaGreatT24
import Derived.Test.YtconajaecpgjgaaGreatT35
import Derived.Test.YtconajaecpgjgaaGreatT39
set_option linter.unusedSimpArgs false
set_option linter.unusedVariables false
set_option maxRecDepth 100000
set_option maxHeartbeats 8000000
namespace Go.Proofs.YtconajaecpgjgaaGreat
open Go.RowKit
theorem rright_any (RU:RuleAny) (cs:List Value) (x:Mod) (A:Option Addr) (n c:Nat) (L:List (List Shape)) (w:World) (h:modL.R (·<w.heap.size) w cs x) (hz:Small x) (hl:L.length=n) (hL:Sq rowL (·<w.heap.size) w A L) (hnm:n≤9223372036854775807):Calls Tryz.prog 15 #[vAgg cs,.slice A n c] w (RRight x L w):=by
 have TM:Hid (∀w1,Below w.heap.size w w1→Calls Tryz.prog 9 #[vAgg cs] w1 (Tells (mainB x) w1)):=fun w1 hb=>qHD cs x w1 (qBQ h hb) hz
 have TF:Hid (checkN x=0→∀(w1:World) (j p:Nat) (fn:Fn) (i:Ins) (D:Option Addr) (g:Nat) (ts:List Typ),Below w.heap.size w w1→x.funcs[j]? =some fn→fn.code[p]? =some i→Sq typL (·<w1.heap.size) w1 D ts→ts.length≤8→ts.length≤g→g≤maxLen→(D=none→g=0)→Calls Tryz.prog 25 #[vAgg cs,.int .i64 (j:Int),.int .i64 (p:Int),.slice D ts.length g] w1 (RFlows (insB8 x fn i p ts) w1)):=fun hc w1 j p fn i D g ts hb hf hi hs h8 hg hm hn=>by
  obtain⟨o,ia,ib⟩:=i
  exact qIn RU cs x j p D ts.length g ts w1 (qBQ h hb) fn o ia ib hc hf hi rfl hs (by omega) hg (by unfold maxLen at hm;omega) hn
 obtain⟨n1,h1⟩:∃n,x.funcs.length=n:=⟨_,rfl⟩
 have HN1:=qAZ h1
 have HLl:=qAZ hl
 have HL:Hid (∀v,Below w.heap.size w v→Sq rowL (·<v.heap.size) v A L):=fun v hb=>qBD hL hb
 obtain⟨_,_,_,_,_,rfl,⟨A0,d0,e0,-⟩,⟨A1,d1,e1,l1,m1,s1⟩,⟨A2,d2,e2,-⟩,⟨A3,d3,e3,-⟩,⟨A4,d4,e4,-⟩⟩:=h
 simp only[List.cons.injEq,and_true] at e0 e1 e2 e3 e4
 subst e0 e1 e2 e3 e4
 have HFn:Hid (∀(k:Nat) (fn:Fn),x.funcs[k]? =some fn→∃a P2 c2,A1=some a∧∀v,Below w.heap.size w v→v.cell? ⟨(a.add (k*5)).block,(a.add (k*5)).off+4,none⟩=some (.slice P2 fn.code.length c2)):=fun k fn hf=>by
  obtain⟨a,ccs,ea,hab,hcl,hR⟩:=s1.at hf
  obtain⟨p0,p1,p2,rfl,-,-,⟨P0,c0,e4,-⟩,⟨P1,c1,e5,-⟩,⟨P2,c2,e6,-⟩⟩:=hR
  simp only[List.cons.injEq,and_true] at e4 e5 e6
  subst e4 e5 e6
  refine⟨a,P2,c2,ea,fun v hb=> ?_⟩
  have k4:=(hb.cell (p:=a.add (k*5+4)) qE).trans (hcl 4 _ rfl)
  rw[qAl a (k*5) 4 (by omega)] at k4
  exact k4
 rw[h1] at TF TM⊢
 generalize x.recs.length=n0 at*
 generalize x.imps.length=n2 at*
 generalize x.ints.length=n3 at*
 generalize x.texts.length=n4 at*
 simp only[vAgg] at TF TM⊢
 clear h1 hl hL s1 l1 m1 hz
 go_enter Tryz.func15,Tryz.ntmps15
 go_upto_region 1 with(fail)
 refine qAp fun W hW=> ?_
 have HBW:Hid (Below w.heap.size w W):=by show Below _ _ _;rw[hW];exact qAj w _
 have HBx:Hid (Blk W w.heap.size 28 #[.slice A0 n0 d0,.slice A1 n1 d1,.slice A2 n2 d2,.slice A3 n3 d3,.slice A4 n4 d4]):=by show Blk _ _ _ _;rw[hW];exact qAm rfl
 have hsW:w.heap.size<W.heap.size:=by rw[hW];simp
 clear hW
 have HBV:Hid (∀v,Below W.heap.size W v→v.cell? ⟨w.heap.size,0,none⟩=some (.slice A0 n0 d0)∧v.cell? ⟨w.heap.size,1,none⟩=some (.slice A1 n1 d1)∧v.cell? ⟨w.heap.size,2,none⟩=some (.slice A2 n2 d2)∧v.cell? ⟨w.heap.size,3,none⟩=some (.slice A3 n3 d3)∧v.cell? ⟨w.heap.size,4,none⟩=some (.slice A4 n4 d4)):=fun v hb=>by
  have hf:=qAc HBx.out hb hsW
  exact⟨hf.cell 0,hf.cell 1,hf.cell 2,hf.cell 3,hf.cell 4⟩
 have HBB:Hid (∀v,Below W.heap.size W v→Below w.heap.size w v):=fun v hb=>HBW.out.trans (hb.mono HBW.out.size)
 obtain⟨z0,z1,z2,z3,z4⟩:=HBV.out W (qAe _ _)
 cases hmn:mainB x
 · have HMn:=qAZ hmn
   rw[hmn] at TM
   clear hmn
   go_wp2_with (first
    |(go_at_call 9
      refine(TM.out _ HBW.out).mono ?_
      rintro e w1 ⟨rfl,hb1⟩
      have HB1:=qAZ hb1
      clear hb1))
   go_ret
   exact qBN (HBB.out _ HB1.out) fun h1 _=>by rw[HMn.out] at h1;cases h1
 have HMn:=qAZ hmn
 rw[hmn] at TM
 have hc:checkN x=0:=by
  rcases Decidable.em (checkN x=0) with h|h
  · exact h
  · rw[qCO h] at hmn;cases hmn
 have HC:=qAZ hc
 have TF2:=qAZ (TF.out hc)
 have hn8:n1≤8:=by have:=(qBJ.1 (qBI hc)).f8;rw[HN1.out] at this;omega
 clear hmn hc TF
 by_cases hnn:n=n1
 rotate_left
 · have hne:¬(n:Int)=(n1:Int):=by omega
   have HNe:=qAZ hnn
   clear hnn
   go_wp2_with (first
    |(go_at_call 9
      refine(TM.out _ HBW.out).mono ?_
      rintro e w1 ⟨rfl,hb1⟩
      have HB1:=qAZ hb1
      obtain⟨y0,y1,y2,y3,y4⟩:=HBV.out w1 hb1
      clear hb1 z0 z1 z2 z3 z4))
   go_ret
   exact qBN (HBB.out _ HB1.out) fun _ h2=>HNe.out (by rw[←HLl.out,h2.len,HN1.out])
 subst hnn
 go_wp2_with (first
  |(go_at_call 9
    refine(TM.out _ HBW.out).mono ?_
    rintro e w1 ⟨rfl,hb1⟩
    have HB1:=qAZ hb1
    obtain⟨y0,y1,y2,y3,y4⟩:=HBV.out w1 hb1
    clear hb1 z0 z1 z2 z3 z4))
 clear y0 y1 y2 y3 y4
 go_loopw [5] (fun i wr=>∃k:Nat,k≤n∧i= .int .i64 (k:Nat)∧Below W.heap.size W wr∧∀(j:Nat) (fn:Fn) (l:List Shape),j<k→x.funcs[j]? =some fn→L[j]? =some l→l.length=fn.code.length∧(∀y∈l,y.2.length≤8)∧RightF x fn (toS l)) (fun i _=>n-(intOf i).toNat)
 case atStart=>exact⟨0,qAs _,rfl,HB1.out,fun j fn l h=>absurd h (by omega)⟩
 case round=>
  obtain⟨wf,eW⟩:∃wf,wf=wr:=⟨_,rfl⟩
  subst eW
  obtain⟨k,hk,rfl,hbf,hall⟩:=hrel
  have HBf:=qAZ hbf
  have HAll:=qAZ hall
  clear HB1 hbf hall
  by_cases hlt:k<n
  · obtain⟨fn,hf⟩:∃fn,x.funcs[k]? =some fn:=⟨x.funcs[k]'(by rw[HN1.out];exact hlt),qAa _⟩
    obtain⟨l,hx⟩:∃l,L[k]? =some l:=⟨L[k]'(by rw[HLl.out];exact hlt),qAa _⟩
    have hmem:=qAk hf
    have hcode0:0<fn.code.length:=by
     have:=(qBJ.1 (qBI HC.out)).funcs fn hmem
     simp only[fnOk,Bool.and_eq_true,qBv] at this
     omega
    obtain⟨-,-,hcode,-⟩:=qBf HC.out hmem
    obtain⟨a,P2,c2,rfl,hcl⟩:=HFn.out k fn hf
    have z5:=hcl _ (HBB.out _ HBf.out)
    obtain⟨aL,D,dl,rfl,-,hr0,hrle,hrcm,-⟩:=qCi (HL.out _ (HBB.out _ HBf.out)) hx
    have HSl:Hid (∀v,Below w.heap.size w v→Sq shpL (·<v.heap.size) v D l):=fun v hb=>by
     obtain⟨aL',D',dl',e,-,hr1,-,-,hs⟩:=qCi (HL.out v hb) hx
     injection e with e
     subst e
     obtain⟨aL2,D2,dl2,e2,hb2,hr2,-,-,hs2⟩:=qCi (HL.out w (qAe _ _)) hx
     injection e2 with e2
     subst e2
     have hq:=(hb.cell (p:=aL.add k) (by rw[qA9];exact hb2)).trans hr2
     have hq2:=((HBB.out _ HBf.out).cell (p:=aL.add k) (by rw[qA9];exact hb2)).trans hr2
     rw[hr0] at hq2
     rw[hr1] at hq
     simp only[Option.some.injEq,Value.slice.injEq,true_and] at hq hq2
     rw[←hq2.1] at hq
     rw[←hq.1]
     exact hs
    have HF:=qAZ hf
    have HX:=qAZ hx
    have HMem:=qAZ hmem
    obtain⟨uc,huc⟩:∃uc,fn.code.length=uc:=⟨_,rfl⟩
    obtain⟨ul,hul⟩:∃ul,l.length=ul:=⟨_,rfl⟩
    have HUC:=qAZ huc
    have HUL:=qAZ hul
    rw[huc] at z5 hcode hcode0
    rw[hul] at hr0 hrle
    obtain⟨y0,y1,y2,y3,y4⟩:=HBV.out _ HBf.out
    have k0:(0:Int)≤(k:Int):=by omega
    have k1:(k:Int)<(n:Int):=by omega
    have hrcm':dl≤9223372036854775807:=by unfold maxLen at hrcm;omega
    clear hf hx hmem hcl huc hul hrcm
    by_cases hlu:ul=uc
    rotate_left
    · exact jQ
    subst hlu
    obtain⟨⟨b0,s0⟩,hx0⟩:∃y,l[0]? =some y:=⟨l[0]'(by rw[HUL.out];exact hcode0),qAa _⟩
    obtain⟨aD,G0,g0,rfl,-,q0,q1,-,-,-,-⟩:=qCV (HSl.out _ (HBB.out _ HBf.out)) hx0
    have HX0:=qAZ hx0
    simp only[Nat.zero_mul] at q0 q1
    rw[show aD.add 0=aD by simp[Addr.add]] at q0 q1
    have hrp:(0:Int)<(ul:Int):=by omega
    clear hx0
    cases b0
    · go_wp2_with fail
      go_ret
      refine qBN (HBB.out _ HBf.out) fun _ h2=> ?_
      have:=(h2.at_ k fn l HF.out HX.out).2.2.zero
      rw[qEw HX0.out] at this
      cases this
    obtain⟨m0,hm0⟩:∃m0,s0.length=m0:=⟨_,rfl⟩
    simp only[hm0] at q1
    have HM0:=qAZ hm0
    clear hm0
    by_cases h00:m0=0
    rotate_left
    · have hgt:(0:Int)<(m0:Int):=by omega
      have HNe:=qAZ h00
      clear h00
      go_wp2_with fail
      go_ret
      refine qBN (HBB.out _ HBf.out) fun _ h2=> ?_
      exact j9
    have HZ0:Hid (toS l 0=some []):=by
     show _=_
     have hs0:s0=[]:=qA1 (by rw[HM0.out];exact h00)
     rw[qBk HX0.out,hs0]
    subst h00
    go_wp2_with fail
    clear q0 q1 z5 hr0 y0 y1 y2 y3 y4
    go_loopw [7] (fun i wr=>∃q:Nat,q≤ul∧i= .int .i64 (q:Nat)∧Below W.heap.size W wr∧(∀(p:Nat) (y:Shape),p<q→l[p]? =some y→y.2.length≤8)∧∀p,p<q→okAt x fn (toS l) p) (fun i _=>ul-(intOf i).toNat)
    case atStart=>exact⟨0,qAs _,rfl,HBf.out,fun p y h=>absurd h (by omega),fun p h=>absurd h (by omega)⟩
    case round=>
     obtain⟨wp,eW⟩:∃wp,wp=wr:=⟨_,rfl⟩
     subst eW
     obtain⟨q,hq,rfl,hbp,h8a,hoka⟩:=hrel
     have HBp:=qAZ hbp
     have H8a:=qAZ h8a
     have HOka:=qAZ hoka
     have hsp:=hbp.size
     clear hbp h8a hoka
     by_cases hltq:q<ul
     · obtain⟨⟨sb,s⟩,hxq⟩:∃y,l[q]? =some y:=⟨l[q]'(by rw[HUL.out];exact hltq),qAa _⟩
       obtain⟨aD',G,g,eD,-,q0,q1,hle,hcm,hnil,hsq⟩:=qCV (HSl.out _ (HBB.out _ HBp.out)) hxq
       injection eD with eD
       subst eD
       simp only at q0 q1 hle hsq
       have HXq:=qAZ hxq
       obtain⟨ns,hns⟩:∃ns,s.length=ns:=⟨_,rfl⟩
       have HNS:=qAZ hns
       have k2:(0:Int)≤(q:Int):=by omega
       have k3:(q:Int)<(ul:Int):=by omega
       clear hxq
       by_cases h8:8<ns
       · have hgt:(8:Int)<(ns:Int):=by omega
         rw[hns] at q1
         clear hns hsq
         go_wp2_with fail
         go_ret
         refine qBN (HBB.out _ HBp.out) fun _ h2=> ?_
         have:=(h2.at_ k fn l HF.out HX.out).2.1 _ (qAk HXq.out)
         have e:=HNS.out
         simp only at this
         omega
       have hgt:¬(8:Int)<(ns:Int):=by omega
       have HS8:Hid (s.length≤8):=by show _≤_;omega
       cases sb
       · rw[hns] at q1
         clear hns hsq
         go_wp2_with fail
         refine⟨⟨q+1,by omega,by simp,HBp.out,fun p y hp hy=> ?_,fun p hp=> ?_⟩,by simp[intOf];omega⟩
         · exact qAG
         · by_cases e:p=q
           · subst e
             intro z hz
             rw[qEw HXq.out] at hz
             cases hz
           · exact HOka.out p (by omega)
       · obtain⟨ins,hi⟩:∃ins,fn.code[q]? =some ins:=⟨fn.code[q]'(by rw[HUC.out];exact hltq),qAa _⟩
         obtain⟨er,t,ks,hfe⟩:∃er t ks,insB8 x fn ins q s=(er,t,ks):=⟨_,_,_,rfl⟩
         obtain⟨nk,hnk⟩:∃nk,ks.length=nk:=⟨_,rfl⟩
         obtain⟨nt,hnt⟩:∃nt,t.length=nt:=⟨_,rfl⟩
         have FA:Hid (∀v,Below wp.heap.size wp v→Calls Tryz.prog 25 #[.agg #[.slice A0 n0 d0,.slice (some a) n d1,.slice A2 n2 d2,.slice A3 n3 d3,.slice A4 n4 d4],.int .i64 (k:Int),.int .i64 (q:Int),.slice G ns g] v (RFlows (er,t,ks) v)):=fun v hb=>by
          have:=TF2.out v k q fn ins G g s (HBB.out _ (HBp.out.trans (hb.mono hsp))) HF.out hi (qBD hsq hb) HS8.out hle hcm hnil
          rwa [hfe,hns] at this
         rw[hns] at q1
         have HIn:=qAZ hi
         have HFE:=qAZ hfe
         have HNK:=qAZ hnk
         have HNT:=qAZ hnt
         have HCV:Hid (∀v,Below wp.heap.size wp v→v.cell? ⟨w.heap.size,0,none⟩=some (.slice A0 n0 d0)∧v.cell? ⟨w.heap.size,1,none⟩=some (.slice (some a) n d1)∧v.cell? ⟨w.heap.size,2,none⟩=some (.slice A2 n2 d2)∧v.cell? ⟨w.heap.size,3,none⟩=some (.slice A3 n3 d3)∧v.cell? ⟨w.heap.size,4,none⟩=some (.slice A4 n4 d4)∧v.cell? ⟨(aD.add (q*2)).block,(aD.add (q*2)).off+1,none⟩=some (.slice G ns g)):=fun v hb=>by
          obtain⟨a0,a1,a2,a3,a4⟩:=HBV.out v (HBp.out.trans (hb.mono hsp))
          refine⟨a0,a1,a2,a3,a4,?_⟩
          rw[hb.cell (qAn wp _ q1)]
          exact q1
         have SW:=qAZ (HCV.out wp (qAe _ _))
         clear hi hfe hnk hnt hns hsq
         go_wp2_with fail
         go_region_held3 (fun v=>v.cell? ⟨w.heap.size,0,none⟩=some (.slice A0 n0 d0)∧v.cell? ⟨w.heap.size,1,none⟩=some (.slice (some a) n d1)∧v.cell? ⟨w.heap.size,2,none⟩=some (.slice A2 n2 d2)∧v.cell? ⟨w.heap.size,3,none⟩=some (.slice A3 n3 d3)∧v.cell? ⟨w.heap.size,4,none⟩=some (.slice A4 n4 d4)∧v.cell? ⟨(aD.add (q*2)).block,(aD.add (q*2)).off+1,none⟩=some (.slice G ns g))
          (first|exact SS5.out|exact SW.out|exact HCV.out _ (qAe _ wp).drew)
          (first
          |(go_at_call 25
            refine(FA.out _ (qAe _ wp).drew).mono ?_
            rintro e w5 ⟨hb5,A5,c5,B5,d5,rfl,ht5,hl5,-⟩
            have HB5:Hid (Below wp.heap.size wp w5):=(by show Below _ _ _;exact(qAe _ wp).drew.trans (hb5.mono (by simp)))
            have SS5:=qAZ (HCV.out _ HB5.out)
            have HT5:=qAZ ht5
            have HL5:=qAZ hl5
            clear hb5 ht5 hl5))
         have HB6:Hid (Below W.heap.size W w5):=HBp.out.trans (HB5.out.mono hsp)
         have hs6:=HB6.out.size
         by_cases he:er=0
         rotate_left
         · have hne:(er != 0)=true:=by simpa using he
           have HNe:=qAZ he
           clear he
           go_wp2_with fail
           go_ret
           refine qBN (HBB.out _ HB6.out) fun _ h2=> ?_
           obtain⟨i',t',l',h3,h4,-⟩:=(h2.at_ k fn l HF.out HX.out).2.2.at_ q (by rw[HUC.out];exact hltq) s (qBk HXq.out)
           rw[HIn.out] at h3
           injection h3 with h3
           subst h3
           rw[HFE.out] at h4
           injection h4 with h4 _
           exact HNe.out h4
         subst he
         have hk2:=qFl HFE.out
         have HTh:=qAZ (qEC HC.out HMem.out HIn.out HFE.out)
         obtain⟨A',c',ea,hle5,hcm5,hsq5⟩:=HT5.out
         simp only[List.cons.injEq,Value.slice.injEq,and_true,true_and] at ea
         obtain⟨rfl,rfl⟩:=ea
         have HSQ5:=qAZ hsq5
         have hcm5':c5≤9223372036854775807:=by unfold maxLen at hcm5;omega
         have HOkq:Hid (RightM x L→∀k'∈ks,leO (some t) (toS l k'.toNat)):=fun h2=>by
          obtain⟨i',t',l',h3,h4,h5⟩:=(h2.at_ k fn l HF.out HX.out).2.2.at_ q (by rw[HUC.out];exact hltq) s (qBk HXq.out)
          rw[HIn.out] at h3
          injection h3 with h3
          subst h3
          rw[HFE.out] at h4
          simp only[Prod.mk.injEq,true_and] at h4
          obtain⟨rfl,rfl⟩:=h4
          exact h5
         rw[HNK.out] at hk2
         rw[HNT.out] at hle5
         rw[HNK.out,HNT.out]
         clear hsq5 SS5 SW HT5 hcm5
         go_wp2_with fail
         go_loopw [11] (fun i wr=>∃m:Nat,m≤nk∧i= .int .i64 (m:Nat)∧Below w5.heap.size w5 wr∧∀k'∈ks.take m,leO (some t) (toS l k'.toNat)) (fun i _=>nk-(intOf i).toNat)
         case atStart=>exact⟨0,qAs _,rfl,qAe _ _,fun k' h=>by simp at h⟩
         case round=>
          obtain⟨wt,eW⟩:∃wt,wt=wr:=⟨_,rfl⟩
          subst eW
          obtain⟨m,hm,rfl,hbt,hled⟩:=hrel
          have HBt:=qAZ hbt
          have HLed:=qAZ hled
          have hst:=hbt.size
          have HBWt:Hid (Below W.heap.size W wt):=HB6.out.trans (hbt.mono hs6)
          clear hbt hled
          by_cases hltm:m<nk
          · obtain⟨k',hk'⟩:∃k',ks[m]? =some k':=⟨ks[m]'(by rw[HNK.out];exact hltm),qAa _⟩
            have hkm:=qAk hk'
            obtain⟨hk0,hkl⟩:=HTh.out k' hkm
            obtain⟨kn,rfl⟩:∃kn:Nat,k'=(kn:Int):=⟨k'.toNat,by omega⟩
            rw[Int.toNat_natCast,HUC.out] at hkl
            obtain⟨aB,rfl,hB2,hB3⟩:=HL5.out m _ hk'
            have hcB:=(HBt.out.cell (p:=aB.add m) (by rw[qA9];exact hB2)).trans hB3
            have HTk:Hid (ks.take (m+1)=ks.take m++[(kn:Int)]):=by
             show _=_
             obtain⟨h1,h2⟩:=qAh.1 hk'
             rw[qAu h1,h2]
            have HKM:=qAZ hkm
            obtain⟨⟨sb2,u⟩,hx2⟩:∃y,l[kn]? =some y:=⟨l[kn]'(by rw[HUL.out];exact hkl),qAa _⟩
            obtain⟨aD',Gu,gu,eD,-,t0,t1,hleu,hcmu,-,hsqu⟩:=qCV (HSl.out _ (HBB.out _ HBWt.out)) hx2
            injection eD with eD
            subst eD
            simp only at t0 t1 hleu hsqu
            have HX2:=qAZ hx2
            obtain⟨nu,hnu⟩:∃nu,u.length=nu:=⟨_,rfl⟩
            have m0:(0:Int)≤(m:Int):=by omega
            have m1:(m:Int)<(nk:Int):=by omega
            have p0:(0:Int)≤(kn:Int):=by omega
            have p1:(kn:Int)<(ul:Int):=by omega
            have hcmu2:gu≤9223372036854775807:=by unfold maxLen at hcmu;omega
            clear hk' hkm hk0 hB2 hB3 hx2
            cases sb2
            · clear hsqu hnu
              go_wp2_with fail
              go_ret
              refine qBN (HBB.out _ HBWt.out) fun _ h2=> ?_
              obtain⟨r,hr,-⟩:=HOkq.out h2 _ HKM.out t rfl
              rw[Int.toNat_natCast,qEw HX2.out] at hr
              cases hr
            · rw[hnu] at t1 hleu
              have BL:=qAZ (qGR A5 Gu nt nu c5 gu t u wt HNT.out hnu (qBD HSQ5.out HBt.out) hsqu (by omega) (by omega))
              clear hsqu hnu
              cases hbel:belowT t u
              · rw[hbel] at BL
                have HBe:=qAZ hbel
                clear hbel
                go_wp2_with (first
                 |(go_at_call 36
                   refine BL.out.mono ?_
                   rintro e w7 ⟨rfl,hb7⟩
                   have HB7:=qAZ (HBWt.out.trans (hb7.mono HBWt.out.size))
                   clear hb7))
                go_ret
                refine qBN (HBB.out _ HB7.out) fun _ h2=> ?_
                obtain⟨r,hr,h3⟩:=HOkq.out h2 _ HKM.out t rfl
                rw[Int.toNat_natCast,qBk HX2.out] at hr
                injection hr with hr
                subst hr
                rw[HBe.out] at h3
                cases h3
              · rw[hbel] at BL
                have HBe:=qAZ hbel
                clear hbel
                go_wp2_with (first
                 |(go_at_call 36
                   refine BL.out.mono ?_
                   rintro e w7 ⟨rfl,hb7⟩
                   have HB7:=qAZ (HBt.out.trans (hb7.mono hst))
                   clear hb7))
                refine⟨⟨m+1,by omega,by simp,HB7.out,fun k' hk'=> ?_⟩,by simp[intOf];omega⟩
                rw[HTk.out] at hk'
                rcases List.mem_append.1 hk' with hk'|hk'
                · exact HLed.out k' hk'
                · simp only[List.mem_singleton] at hk'
                  subst hk'
                  rw[Int.toNat_natCast]
                  intro z hz
                  injection hz with hz
                  subst hz
                  exact⟨u,qBk HX2.out,HBe.out⟩
          · obtain rfl:m=nk:=by omega
            go_wp2_with fail
            refine⟨⟨q+1,by omega,by simp,HBWt.out,fun p y hp hy=> ?_,fun p hp=> ?_⟩,by simp[intOf];omega⟩
            · exact qAG
            · by_cases e:p=q
              · subst e
                intro z hz
                rw[qBk HXq.out] at hz
                injection hz with hz
                subst hz
                refine⟨ins,t,ks,HIn.out,HFE.out,fun k' hk'=>HLed.out k' ?_⟩
                rw[qAr (by rw[HNK.out];exact qAf _)]
                exact hk'
              · exact HOka.out p (by omega)
     · obtain rfl:q=ul:=by omega
       go_wp2_with fail
       refine⟨⟨k+1,by omega,by simp,HBp.out,fun j fn2 l2 hj h1 h2=> ?_⟩,by simp[intOf];omega⟩
       by_cases e:j=k
       · subst e
         rw[HF.out] at h1
         rw[HX.out] at h2
         injection h1 with h1
         injection h2 with h2
         subst h1 h2
         refine⟨by rw[HUL.out,HUC.out],fun y hy=> ?_,HZ0.out,fun p hp=>HOka.out p (by rw[←HUC.out];exact hp)⟩
         obtain⟨p,hp⟩:=qA8.1 hy
         exact H8a.out p y (by have:=(qAh.1 hp).1;rw[HUL.out] at this;exact this) hp
       · exact HAll.out j fn2 l2 (by omega) h1 h2
  · obtain rfl:k=n:=by omega
    go_wp2_with fail
    go_ret
    exact⟨HBB.out _ HBf.out,true,rfl,⟨fun _=>⟨HMn.out,by rw[HLl.out,HN1.out],fun j fn l h1 h2=>HAll.out j fn l (by have:=(qAh.1 h1).1;rw[HN1.out] at this;exact this) h1 h2⟩,fun _=>rfl⟩⟩
end Go.Proofs.YtconajaecpgjgaaGreat
