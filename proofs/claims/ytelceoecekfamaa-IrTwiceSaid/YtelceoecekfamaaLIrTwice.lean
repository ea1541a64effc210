/-
  The law IrTwice holds: the same module has the same instructions again, whatever became of the first ones; the law's function returns true and turns nothing that was there.
  Conditions: none.
-/
import Derived.Test.YtelceoecekfamaaQ01
import Derived.Test.YtelceoecekfamaaQ02
import Derived.Test.YtelceoecekfamaaQ06
import Derived.Test.YtelceoecekfamaaQ27
import Derived.BigQuiet
import Derived.BigRegion
namespace Go.Proofs.Ytelceoecekfamaa.irTwice
open Go.ChangeShapes Go.WideShapes Go.ChangeAt Go.RowKit
set_option linter.unusedVariables false
set_option linter.unusedSimpArgs false
set_option maxRecDepth 100000 in
set_option maxHeartbeats 8000000 in
theorem walk (cs:List Value) (m:Mod) (w:World) (h:modL.R (·<w.heap.size) w cs m) (hz:Zm m):
 Calls Try.prog 5 #[vAgg cs] w fun e w'=>e= .returned (.bool true)∧Below w.heap.size w w':=by
 refine zu ?_;intro AN L0 CK
 have HLn:Hid (∀A0 A1 A2 A3 A4 n0 n1 n2 n3 n4 c0 c1 c2 c3 c4,cs=[.slice A0 n0 c0,.slice A1 n1 c1,.slice A2 n2 c2,.slice A3 n3 c3,.slice A4 n4 c4]→m.funcs.length=n1):=fun A0 A1 A2 A3 A4 n0 n1 n2 n3 n4 c0 c1 c2 c3 c4 e=>by
  obtain⟨_,_,_,_,_,rfl,-,⟨B,d,e1,-⟩,-⟩:=h
  simp only[List.cons.injEq,and_true] at e e1
  have:=e1.symm.trans e.2.1
  injection this
 obtain⟨A0,A1,A2,A3,A4,n0,n1,n2,n3,n4,c0,c1,c2,c3,c4,hcs⟩:=qBH h
 have hn1:=HLn.out _ _ _ _ _ _ _ _ _ _ _ _ _ _ _ hcs
 have HN1:=qAF hn1
 subst hcs
 clear h hz HLn hn1
 simp only[vAgg] at L0 CK⊢
 go_enter Try.func5,Try.ntmps5
 go_wp2_with fail
 refine qBR fun W hW=> ?_
 refine jB ?_;intro HB0 HC0 hzW
 clear hW
 refine jC ?_;intro HCV HBB
 refine(L0.out W HB0.out).mono ?_
 rintro e V ⟨b,rfl,hb1,-⟩
 have HB1:=qAF hb1
 obtain⟨x0,x1,x2,x3,x4⟩:=HCV.out V hb1
 clear hb1
 cases b
 · exact qi
 go_wp2_with fail
 refine(CK.out V (HBB.out _ HB1.out)).mono ?_
 intro e w2 hch
 obtain⟨hb2,⟨er,rfl,hne,-⟩|⟨hc,hm,L,q,g,hL,rfl,hq,hR,hG⟩⟩:=qB1 hch
 · exact qR
 have HL:=qAF hL
 have HC:=qAF hc
 have HM:=qAF hm
 have HG:=qAF hG
 obtain⟨n,hn⟩:∃n,L.length=n:=⟨_,rfl⟩
 have HN:=qAF hn
 have hn8:n≤8:=by have:=(qAW.1 (qAT hc)).f8;rw[←hn,hL.len];omega
 have hqV:V.heap.size≤q:=hq
 have hs1:=HB1.out.size
 have hs2:=hb2.size
 rw[hn] at hR⊢
 have HR:=qAF hR
 have HB2:=qAF hb2
 have hq2:=hR.lt
 have HWV:Hid (∀v,Below V.heap.size V v→Below W.heap.size W v):=fun v hb=>HB1.out.trans (hb.mono HB1.out.size)
 have HLr:Hid (∀k,k<n→0<lenF L k∧lenF L k≤64):=fun k hk=>⟨qIJ HC.out HL.out (by rw[HN.out];exact hk),qEO HC.out HL.out (by rw[HN.out];exact hk)⟩
 have HGg:Hid (∀k,k<n→q<g k∧g k<w2.heap.size):=fun k hk=>⟨HG.out.lo k (by rw[HN.out];exact hk),(HG.out.row k (by rw[HN.out];exact hk)).lt⟩
 clear hch hb2 hL hR hG hc hm hq hn x0 x1 x2 x3 x4
 go_wp2_with fail
 go_loopw [5,6] (fun v i wr=>∃k:Nat,k≤n∧i= .int .i64 (k:Nat)∧Below V.heap.size V wr∧w2.heap.size≤wr.heap.size∧Rg wr q 36 n (celS (lenF L) g n)∧(∀j,k≤j→j<n→Rg wr (g j) 38 (lenF L j*6) (cel6 (rowF m L j)))∧∃cs h c,Fst (lenF L) (rowF m L) w2.heap.size k wr v cs h c) (fun _ i _=>n-(intOf i).toNat)
 case atStart=>exact⟨0,qAQ _,rfl,HB2.out,qAI _,HR.out,fun j _ hj=>HG.out.row j (by rw[HN.out];exact hj),_,_,_,Fst.zero _ _ _ _⟩
 case round=>
  obtain⟨wf,eW⟩:∃wf,wf=wr:=⟨_,rfl⟩
  subst eW
  obtain⟨k,hk,rfl,hbf,hsf,hRf,hGf,cs,h,c,hF⟩:=hrel
  have HBf:=qAF hbf
  have HRf:=qAF hRf
  have HGf:=qAF hGf
  have HF:=qAF hF
  clear hbf hRf hGf
  by_cases hlt:k<n
  · obtain⟨h0,h64⟩:=HLr.out k hlt
    obtain⟨hg1,hg2⟩:=HGg.out k hlt
    have k0:(0:Int)≤(k:Int):=by omega
    have k1:(k:Int)<(n:Int):=by omega
    obtain⟨len,hlen⟩:∃len,lenF L k=len:=⟨_,rfl⟩
    obtain⟨B,hB⟩:∃B,g k=B:=⟨_,rfl⟩
    clear hF
    have HLn:Hid (lenF L k=len):=hlen
    have HBe:Hid (g k=B):=hB
    have cq:=HRf.out.cell hlt
    rw[celS,if_pos hlt,hlen,hB] at cq
    have HGk:=qAF (HGf.out k (qAI _) hlt)
    rw[hlen] at h0 h64
    rw[hlen,hB] at HGk
    rw[hB] at hg1 hg2
    clear hlen hB
    have cq1:∀o:Obj,(wf.alloc o).cell? ⟨q,k,none⟩=some (.slice (some ⟨B,0,none⟩) len len):=fun o=>by rw[World.cell?_alloc_some _ _ _ (by rw[cq];rfl)];exact cq
    go_wp2_with (first
     |(at_builtin
       refine qCN 6 len _ rfl (.tmp 31) (.tmp 35) 36 38 rfl (.agg #[.int .i64 0,.int .i64 0,.int .i64 0,.int .i64 0,.int .i64 0,.int .i64 0]) 48 Try.underlying36 qDV rfl qj qj wf.heap.size _ 0 [] rfl (World.ownsRow_lit wf #[] 0 (qAI _) (by simp[maxLen]) rfl) ⟨B,0,none⟩ len rfl ((List.range (len*6)).map (cel6 (rowF m L k))) (by simp) ?hcc ?hoo (by omega) (by simp) ?hkk
       case hcc=>
        intro j u hu
        simp only[List.getElem?_map,Option.map_eq_some_iff] at hu
        obtain⟨i,hi,rfl⟩:=hu
        obtain⟨hj,hi⟩:=qAH.1 hi
        simp at hj hi
        subst hi
        have:=((HGk.out.below (qAN wf (.cells #[] 38)) HGk.out.lt).cell hj)
        rw[show(⟨B,0,none⟩:Addr).add j=⟨B,j,none⟩ by unfold Addr.add;split<;>simp_all]
        exact this
       case hoo=>
        intro u hu
        obtain⟨i,-,rfl⟩:=List.mem_map.1 hu
        rfl
       intro v1 w1 hown1 hg1' hv1
       rw[←HLn.out] at hown1
       obtain⟨hk1,hsw1,hbl1,b1,d1,hv1e,hd1,hm1,hb1,hb1s,hob⟩:=qHR HF.out hsf (by rw[HLn.out];exact h0) hown1 hg1'
       rw[HLn.out] at hd1 hob hv1e
       subst hv1e
       have HOB:=qAF hob
       have HBL1:=qAF hbl1
       clear hk1 hbl1 hob hown1 hg1' hv1)
     |(at_builtin
       refine qCx 1 _ rfl (.tmp 30) (.tmp 37) 31 36 rfl (.slice none 0 0) 24 Try.underlying31 qDU rfl qj qj w2.heap.size _ k cs rfl (HOB.out _).1 ⟨w1.heap.size,0,none⟩ 1 rfl [.slice (some ⟨b1,0,none⟩) len d1] rfl ?hcc2 ?hoo2 (by omega) qK ?hkk2
       case hcc2=>
        intro j u hu
        cases j with
        |succ j=>simp at hu
        |zero=>
         simp at hu
         subst hu
         simp[Addr.add,go_sem]
       case hoo2=>
        intro u hu
        simp at hu
        subst hu
        rfl
       intro v7 w7 hown7 hg7 hv7
       obtain⟨hk7,hs7,hb7,h7,c7,hF7⟩:=(HOB.out _).2 v7 w7 hown7 hg7 hv7
       have HK7:=qAF hk7
       have HB7:Hid (Below V.heap.size V w7):=(by show Below _ _ _;exact HBf.out.trans (hb7.mono (by omega)))
       have HF7:=qAF hF7
       clear hown7 hg7 hv7 hk7 hb7 hF7))
    have HQ7:Hid (Rg w7 q 36 n (celS (lenF L) g n)):=HRf.out.keep (HK7.out q (by omega))
    have HG7:Hid (∀j,k+1≤j→j<n→Rg w7 (g j) 38 (lenF L j*6) (cel6 (rowF m L j))):=fun j hj hjn=>(HGf.out j (by omega) hjn).keep (HK7.out _ (HGg.out j hjn).2)
    have HR7:Hid (Rg w7 B 38 (len*6) (cel6 (rowF m L k))):=HGk.out.keep (HK7.out B hg2)
    clear cq cq1 HOB HBL1
    go_loopw [7] (fun i wr=>∃p:Nat,p≤len∧i= .int .i64 (p:Nat)∧Only B w7 wr∧∃F:Nat→Int,Rg wr B 38 (len*6) fun i=> .int .i64 (F i)) (fun i _=>len-(intOf i).toNat)
    case atStart=>exact⟨0,qAQ _,rfl,qA5 _ _,fun i=>rowF m L k (i / 6) (i % 6),HR7.out⟩
    case round=>
     obtain⟨y,eY⟩:∃y,y=wr:=⟨_,rfl⟩
     subst eY
     obtain⟨p,hp,rfl,hoy,F,hry⟩:=hrel
     have HOy:=qAF hoy
     have HRy:=qAF hry
     have cq:=(HQ7.out.only hoy (by omega)).cell hlt
     rw[celS,if_pos hlt,HLn.out,HBe.out] at cq
     clear hoy hry
     by_cases hlp:p<len
     · have p0:(0:Int)≤(p:Int):=by omega
       have p1:(p:Int)<(len:Int):=by omega
       have d3:=HRy.out.cell (i:=p*6+3) (by omega)
       have f3:=HRy.out.frozen (p*6+3)
       generalize F (p*6+3)=r3 at*
       go_wp2_with fail
       refine⟨⟨p+1,by omega,by simp,qAc HOy.out _ _,fun i=>if i=p*6+3 then wrap64 (r3+1) else F i,(HRy.out.set _ _).to fun i hi=> ?_⟩,by simp[intOf];omega⟩
       by_cases e:i=p*6+3
       · simp[e]
       · simp[e]
     · obtain rfl:p=len:=by omega
       go_wp2_with fail
       have hsy:=HOy.out.size
       obtain⟨h7',c7',hF7'⟩:∃h c,Fst (lenF L) (rowF m L) w2.heap.size (k+1) w7 v7 _ h c:=⟨_,_,HF7.out⟩
       exact⟨⟨k+1,by omega,by simp,qCq HB7.out HOy.out (by omega) HB7.out.size,by omega,HQ7.out.only HOy.out (by omega),fun j hj hjn=>(HG7.out j hj hjn).only HOy.out (fun e=>by have:=HG.out.up k j (by omega) (by rw[HN.out];exact hjn);rw[HBe.out,e] at this;omega),_,_,_,hF7'.keep (fun b hb hb2=>HOy.out.block b hb2 (fun e=>by injection e with e;omega)) hsy⟩,by simp[intOf];omega⟩
  · obtain rfl:k=n:=by omega
    obtain⟨x0,x1,x2,x3,x4⟩:=HCV.out wf (HWV.out _ HBf.out)
    have n0':0<k:=by
     have h1:=(qAW.1 (qAT HC.out)).f1
     have:=HL.out.len
     rw[HN.out] at this
     omega
    obtain⟨q5,d5,rfl,hd5,hm5,hq5,hq5s,hc5⟩:=hF.slice n0'
    have HC5:=qAF hc5
    unfold maxLen at hm5
    have hm5':d5≤9223372036854775807:=by omega
    have CK2:=qAF (CK.out wf (HBB.out _ (HWV.out _ HBf.out)))
    clear hc5 hm5
    go_wp2_with fail
    refine CK2.out.mono ?_
    intro e w8 hch
    obtain⟨hb8,⟨er,rfl,hne,hcs⟩|⟨-,-,L',q',g',hL',rfl,hq',hR',hG'⟩⟩:=qB1 hch
    · exfalso
      rcases hcs with⟨h1,-⟩|⟨-,h1,-⟩|⟨-,-,h1,-⟩
      · exact h1 HC.out
      · rw[HM.out] at h1;cases h1
      · exact HL.out.right.never h1
    obtain rfl:=HL.out.same hL'
    rw[HN.out] at hR' hG'⊢
    have HB8:=qAF hb8
    have HR':=qAF hR'
    have HG':=qAF hG'
    have HC8:Hid (∀v,Below w8.heap.size w8 v→∀j,j<k→v.cell? ⟨q5,j,none⟩=some (.slice (some ⟨h j,0,none⟩) (lenF L j) (c j))):=fun v hv j hj=>((hb8.trans (hv.mono hb8.size)).cell (p:=⟨q5,j,none⟩) hq5s).trans (HC5.out j hj)
    have HR8:Hid (∀v,Below w8.heap.size w8 v→∀j,j<k→Rcl v (h j) (lenF L j*6) (cel6 (rowF m L j))):=fun v hv j hj=>(HF.out.row j hj).keep ((hb8.trans (hv.mono hb8.size)).block _ (HF.out.row j hj).1) ((hb8.trans (hv.mono hb8.size)).size)
    have HWX:Hid (∀v,Below w8.heap.size w8 v→Below W.heap.size W v):=fun v hb=>HWV.out _ (HBf.out.trans ((HB8.out.trans (hb.mono HB8.out.size)).mono HBf.out.size))
    clear hch hb8 hL' hq' hR' hG' x0 x1 x2 x3 x4
    go_wp2_with fail
    go_loopw [10] (fun i wr=>∃r:Nat,r≤k∧i= .int .i64 (r:Nat)∧Below w8.heap.size w8 wr) (fun i _=>k-(intOf i).toNat)
    case atStart=>exact⟨0,qAQ _,rfl,qAJ _ _⟩
    case round=>
     obtain⟨y,eY⟩:∃y,y=wr:=⟨_,rfl⟩
     subst eY
     obtain⟨r,hr,rfl,hby⟩:=hrel
     have HBy:=qAF hby
     clear hby
     by_cases hlr:r<k
     · have r0':(0:Int)≤(r:Int):=by omega
       have r1':(r:Int)<(k:Int):=by omega
       obtain⟨h0,h64⟩:=HLr.out r hlr
       obtain⟨hcc1,hcc2⟩:=HF.out.cap r hlr
       obtain⟨len,hlen⟩:∃len,lenF L r=len:=⟨_,rfl⟩
       obtain⟨B,hB⟩:∃B,g' r=B:=⟨_,rfl⟩
       obtain⟨B2,hB2⟩:∃B2,h r=B2:=⟨_,rfl⟩
       obtain⟨cc,hcc⟩:∃cc,c r=cc:=⟨_,rfl⟩
       have HA1:Hid (∀v,Below w8.heap.size w8 v→v.cell? ⟨q',r,none⟩=some (.slice (some ⟨B,0,none⟩) len len)∧v.cell? ⟨q5,r,none⟩=some (.slice (some ⟨B2,0,none⟩) len cc)):=fun v hv=>by
        have e1:=(HR'.out.below hv HR'.out.lt).cell hlr
        have e2:=HC8.out v hv r hlr
        rw[celS,if_pos hlr,hlen,hB] at e1
        rw[hlen,hB2,hcc] at e2
        exact⟨e1,e2⟩
       have HA2:Hid (∀v,Below w8.heap.size w8 v→∀p c,p<len→c<6→v.cell? ⟨B,p*6+c,none⟩=some (.int .i64 (rowF m L r p c))∧v.cell? ⟨B2,p*6+c,none⟩=some (.int .i64 (rowF m L r p c))):=fun v hv p c hp hc6=>by
        have e1:=((HG'.out.row r hlr).below hv (HG'.out.row r hlr).lt).cell (i:=p*6+c) (by rw[hlen];omega)
        have e2:=(HR8.out v hv r hlr).2 (p*6+c) (by rw[hlen];omega)
        rw[hB] at e1
        rw[hB2] at e2
        rw[cel6,show(p*6+c) / 6=p by omega,show(p*6+c) % 6=c by omega] at e1 e2
        exact⟨e1,e2⟩
       rw[hlen] at h0 h64 hcc1
       rw[hcc] at hcc1 hcc2
       unfold maxLen at hcc2
       have hcc3:cc≤9223372036854775807:=by omega
       obtain⟨y1,y2⟩:=HA1.out y HBy.out
       clear hlen hB hB2 hcc hcc2
       go_upto_region 21 with(fail)
       go_region
       go_wp2_with fail
       go_loopw [11] (fun i wr=>∃p:Nat,p≤len∧i= .int .i64 (p:Nat)∧Below w8.heap.size w8 wr) (fun i _=>len-(intOf i).toNat)
       case atStart=>exact⟨0,qAQ _,rfl,by first|exact HBy.out|exact HBy.out.drew⟩
       case round=>
        obtain⟨u,eU⟩:∃u,u=wr:=⟨_,rfl⟩
        subst eU
        obtain⟨p,hp,rfl,hbu⟩:=hrel
        have HBu:=qAF hbu
        obtain⟨u1,u2⟩:=HA1.out u hbu
        clear hbu y1 y2
        by_cases hlp:p<len
        · have p0':(0:Int)≤(p:Int):=by omega
          have p1':(p:Int)<(len:Int):=by omega
          obtain⟨a0,b0⟩:=HA2.out u HBu.out p 0 hlp (by omega)
          rw[Nat.add_zero] at a0 b0
          obtain⟨a1,b1⟩:=HA2.out u HBu.out p 1 hlp (by omega)
          obtain⟨a2,b2⟩:=HA2.out u HBu.out p 2 hlp (by omega)
          obtain⟨a3,b3⟩:=HA2.out u HBu.out p 3 hlp (by omega)
          obtain⟨a4,b4⟩:=HA2.out u HBu.out p 4 hlp (by omega)
          obtain⟨a5,b5⟩:=HA2.out u HBu.out p 5 hlp (by omega)
          generalize rowF m L r p 0=r0 at*
          generalize rowF m L r p 1=r1 at*
          generalize rowF m L r p 2=r2 at*
          generalize rowF m L r p 3=r3 at*
          generalize rowF m L r p 4=r4 at*
          generalize rowF m L r p 5=r5 at*
          go_upto_region 26 with(fail)
          go_region
          go_wp2_with fail
          exact⟨⟨p+1,by omega,by simp,by first|exact HBu.out|exact HBu.out.drew⟩,by simp[intOf];omega⟩
        · obtain rfl:p=len:=by omega
          go_wp2_with fail
          exact⟨⟨r+1,by omega,by simp,HBu.out⟩,by simp[intOf];omega⟩
     · obtain rfl:r=k:=by omega
       go_wp2_with (first|(go_at_call 7;refine(AN.out _).mono ?_;rintro e w9 ⟨rfl,hb9⟩;have HB9:=qAF (HBy.out.trans (hb9.mono HBy.out.size));clear hb9))
       go_ret
       exact⟨rfl,HBB.out _ (HWX.out _ HB9.out)⟩
set_option maxRecDepth 100000 in
theorem lifted (os:Os) (started:os.Started) (H:Type) (enc:TypeId×Value→H):
 ReturnsInHanded {} Try.checked os 5 .any (Rows.irTwiceSpec.pre6 enc Try.prog Try.f5 Rows.irTwiceRow.domain false) (Rows.irTwiceSpec.post enc Try.prog Try.f5 false true false false):=by
 refine returnsInHanded_of_change_sized (C:=Try.checked) own started qL Try.func5
  (ChangeSpec.witness6 (enc:=enc) (C:=Try.checked) false ⟨#[],#[.agg #[.slice none 0 0,.slice none 0 0,.slice none 0 0,.slice none 0 0,.slice none 0 0]],[]⟩ 8 qL qL qL qL) ?_
 intro W base args ds gs before hval0 hW hcnd hwz _
 have hval:∀(j:Nat) t v,Try.f5.params[j]? =some t→args[j]? =some v→Value.okWide Try.prog W .any base t v:=hval0
 have hW':=hW
 obtain⟨p,q,hA0,hV,rfl,hfz,hnd⟩:=hW
 have hA:DataW.TrodAll enc Try.prog W 0 (fun _=>true) true Try.f5.params.toList args.toList ds p:=hA0
 rw[Try.params5] at hA hval
 obtain⟨v0,vs0,d0,ds0,p0,q0,hargs,rfl,rfl,h0,r0⟩:=trodAll_cons hA
 obtain⟨rfl,rfl,rfl⟩:=trodAll_nil r0
 obtain rfl:args= #[v0]:=by cases args;simp_all
 obtain⟨rfl,rfl⟩:=trodVars_none hV
 refine jF ?_;intro lt0 hwz0
 obtain⟨cs0,m0,rfl,hm0,hz0⟩:=qCW h0 hwz0
 clear hA0 hval0
 refine(walk cs0 m0 W hm0 hz0).mono fun e W' ⟨he,bel⟩=> ?_
 subst he
 exact⟨_,rfl,_,_,_,[],_,[],hW',trodAll_mk1 (shut_bool Try.underlying4 _),(trodAll_cons_mk (Below.trod qEP qL (of_decide_eq_true qL) h0 bel lt0) trodAll_mk0),rfl,bel.frame _,fun h=>by cases h⟩
theorem over:Rows.irTwiceRow.holds Try.pinned (OpenSpec.ofChange Rows.irTwiceSpec):=
 OpenClaim.holds_of_wide 5 Try.f5 rfl rfl rfl rfl rfl rfl rfl ⟨rfl,rfl,rfl,rfl,rfl⟩ rfl rfl rfl rfl rfl qL Try.func5 qL
  (of_decide_eq_true qL) qt
  (fun os started H enc _=>lifted os started H enc)
/-- The statement. -/
theorem proved:Rows.IrTwiceSaid:=over
end Go.Proofs.Ytelceoecekfamaa.irTwice
