/-
  The law IrFits holds: all registers that are named are there; the law's function returns true and turns nothing that was there.
  Conditions: none.
-/
import Derived.Test.YtelceoecekfamaaQ01
import Derived.Test.YtelceoecekfamaaQ02
import Derived.Test.YtelceoecekfamaaQ06
import Derived.Test.YtelceoecekfamaaQ17
import Derived.BigQuiet
namespace Go.Proofs.Ytelceoecekfamaa.irFits
open Go.ChangeShapes Go.WideShapes Go.ChangeAt Go.RowKit
set_option linter.unusedVariables false
set_option linter.unusedSimpArgs false
set_option maxRecDepth 100000 in
set_option maxHeartbeats 8000000 in
theorem walk (cs:List Value) (m:Mod) (w:World) (h:modL.R (·<w.heap.size) w cs m) (hz:Zm m):
 Calls Try.prog 3 #[vAgg cs] w fun e w'=>e= .returned (.bool true)∧Below w.heap.size w w':=by
 refine zu ?_;intro AN L0 CK
 have RY:Hid (∀w1 (j:Nat) fn,Below w.heap.size w w1→checkN m=0→m.funcs[j]? =some fn→Calls Try.prog 9 #[vAgg cs,.int .i64 (j:Int)] w1 fun e w'=>e= .returned (.int .i64 ((fn.args.length+fn.locs.length+8:Nat):Int))∧Below w1.heap.size w1 w'):=fun w1 j fn hb hc hf=>qEr cs m j fn w1 (qA0 h hb) hc hf
 have HLn:Hid (∀A0 A1 A2 A3 A4 n0 n1 n2 n3 n4 c0 c1 c2 c3 c4,cs=[.slice A0 n0 c0,.slice A1 n1 c1,.slice A2 n2 c2,.slice A3 n3 c3,.slice A4 n4 c4]→m.funcs.length=n1):=fun A0 A1 A2 A3 A4 n0 n1 n2 n3 n4 c0 c1 c2 c3 c4 e=>by
  obtain⟨_,_,_,_,_,rfl,-,⟨B,d,e1,-⟩,-⟩:=h
  simp only[List.cons.injEq,and_true] at e e1
  have:=e1.symm.trans e.2.1
  injection this
 obtain⟨A0,A1,A2,A3,A4,n0,n1,n2,n3,n4,c0,c1,c2,c3,c4,hcs⟩:=qBH h
 have hn1:=HLn.out _ _ _ _ _ _ _ _ _ _ _ _ _ _ _ hcs
 have HN1:=qAF hn1
 subst hcs
 clear h hz HLn hn1
 simp only[vAgg] at L0 CK RY⊢
 go_enter Try.func3,Try.ntmps3
 go_wp2_with fail
 refine qBR fun W hW=> ?_
 refine jB ?_;intro HB0 HC0 hzW
 clear hW
 refine jC ?_;intro HCV HBB
 refine(L0.out W HB0.out).mono ?_
 rintro e V ⟨b,rfl,hb1,-⟩
 have HB1:=qAF hb1
 obtain⟨x0,x1,x2,x3,x4⟩:=HCV.out V hb1
 clear hb1
 cases b
 · exact qi
 go_wp2_with fail
 refine(CK.out V (HBB.out _ HB1.out)).mono ?_
 intro e w2 hch
 obtain⟨hb2,⟨er,rfl,hne,-⟩|⟨hc,hm,L,q,g,hL,rfl,hq,hR,hG⟩⟩:=qB1 hch
 · exact qR
 refine jU ?_;intro HB2
 have HQ:=qAF hR
 have HG:=qAF hG
 have HL:=qAF hL
 have HC:=qAF hc
 have hn8:L.length≤8:=by have:=(qAW.1 (qAT hc)).f8;rw[hL.len];omega
 obtain⟨n,hn⟩:∃n,L.length=n:=⟨_,rfl⟩
 have HNN:Hid (n1=n):=by show n1=n;rw[←hn,hL.len,HN1.out]
 have HN:=qAF hn
 rw[hn] at hn8⊢
 have hq2:=hR.lt
 have HWV:Hid (∀v,Below w2.heap.size w2 v→Below W.heap.size W v):=fun v hb=>HB2.out.trans (hb.mono HB2.out.size)
 clear hch hb2 hL hR hG hc hm hq hn x0 x1 x2 x3 x4
 go_wp2_with fail
 go_loopw [5] (fun i wr=>∃k:Nat,k≤n∧i= .int .i64 (k:Nat)∧Below w2.heap.size w2 wr) (fun i _=>n-(intOf i).toNat)
 case atStart=>exact⟨0,qAQ _,rfl,qAJ _ _⟩
 case round=>
  obtain⟨wf,eW⟩:∃wf,wf=wr:=⟨_,rfl⟩
  subst eW
  obtain⟨k,hk,rfl,hbf⟩:=hrel
  have HBf:=qAF hbf
  clear hbf
  by_cases hlt:k<n
  · obtain⟨fn,hfn⟩:∃fn,m.funcs[k]? =some fn:=⟨m.funcs[k]'(by rw[HN1.out,HNN.out];exact hlt),List.getElem?_eq_getElem _⟩
    obtain⟨x0,x1,x2,x3,x4⟩:=HCV.out wf (HWV.out _ HBf.out)
    have k0:(0:Int)≤(k:Int):=by omega
    have k1:(k:Int)<(n:Int):=by omega
    have RYk:=qAF (RY.out wf k fn (HBB.out _ (HWV.out _ HBf.out)) HC.out hfn)
    obtain⟨rn,hrn⟩:∃rn,fn.args.length+fn.locs.length+8=rn:=⟨_,rfl⟩
    have hrl:rn≤20:=by have:=qAv HC.out (qAK hfn);omega
    have HFit:Hid (∀p,0≤rowF m L k p 3∧0≤rowF m L k p 4∧0≤rowF m L k p 5∧rowF m L k p 3+rowF m L k p 4≤(rn:Int)∧rowF m L k p 3+rowF m L k p 5≤(rn:Int)):=fun p=>by rw[←hrn];exact qGT HL.out hfn p
    rw[hrn] at RYk
    have hkL:k<L.length:=by rw[HN.out];exact hlt
    have hl64:=qEO HC.out HL.out hkL
    obtain⟨len,hlen⟩:∃len,lenF L k=len:=⟨_,rfl⟩
    obtain⟨B,hB⟩:∃B,g k=B:=⟨_,rfl⟩
    have HCk:Hid (∀v,Below w2.heap.size w2 v→v.cell? ⟨q,k,none⟩=some (.slice (some ⟨B,0,none⟩) len len)):=fun v hb=>by
     have:=((HQ.out.below hb HQ.out.lt).cell (i:=k) (by simpa using hkL))
     rw[this,celS,if_pos hkL,hlen,hB]
    have HRk:Hid (∀v,Below w2.heap.size w2 v→∀p c,p<len→c<6→v.cell? ⟨B,p*6+c,none⟩=some (.int .i64 (rowF m L k p c))):=fun v hb p c hp hc6=>by
     have:=((HG.out.row k hkL).below hb (HG.out.row k hkL).lt).cell (i:=p*6+c) (by rw[hlen];omega)
     rw[hB] at this
     rw[this,cel6,show(p*6+c) / 6=p by omega,show(p*6+c) % 6=c by omega]
    rw[hlen] at hl64
    clear hfn hrn hkL hlen hB
    go_wp2_with (first
     |(go_at_call 9
       refine RYk.out.mono ?_
       rintro e w5 ⟨rfl,hb5⟩
       have HB5:=qAF (HBf.out.trans (hb5.mono HBf.out.size))
       clear hb5))
    clear x0 x1 x2 x3 x4
    go_loopw [7] (fun i wr=>∃p:Nat,p≤len∧i= .int .i64 (p:Nat)∧Below w2.heap.size w2 wr) (fun i _=>len-(intOf i).toNat)
    case atStart=>exact⟨0,qAQ _,rfl,HB5.out⟩
    case round=>
     obtain⟨y,eY⟩:∃y,y=wr:=⟨_,rfl⟩
     subst eY
     obtain⟨p,hp,rfl,hby⟩:=hrel
     have HBy:=qAF hby
     have z:=HCk.out y hby
     clear hby
     by_cases hlp:p<len
     · have p0:(0:Int)≤(p:Int):=by omega
       have p1:(p:Int)<(len:Int):=by omega
       have d0:=HRk.out y HBy.out p 0 hlp (by omega)
       rw[Nat.add_zero] at d0
       have d1:=HRk.out y HBy.out p 1 hlp (by omega)
       have d2:=HRk.out y HBy.out p 2 hlp (by omega)
       have d3:=HRk.out y HBy.out p 3 hlp (by omega)
       have d4:=HRk.out y HBy.out p 4 hlp (by omega)
       have d5:=HRk.out y HBy.out p 5 hlp (by omega)
       obtain⟨f1,f2,f3,f4,f5⟩:=HFit.out p
       generalize rowF m L k p 0=r0 at*
       generalize rowF m L k p 1=r1 at*
       generalize rowF m L k p 2=r2 at*
       generalize rowF m L k p 3=r3 at*
       generalize rowF m L k p 4=r4 at*
       generalize rowF m L k p 5=r5 at*
       have hw1:IntKind.i64.wrap (r3+r4)=r3+r4:=by rw[qAS];omega
       have hw2:IntKind.i64.wrap (r3+r5)=r3+r5:=by rw[qAS];omega
       have e1:decide (r3<0)=false:=by simpa using f1
       have e2:decide ((rn:Int)<r3+r4)=false:=by simpa using f4
       have e3:decide ((rn:Int)<r3+r5)=false:=by simpa using f5
       clear f1 f2 f3 f4 f5
       go_wp2_with fail
       exact⟨⟨p+1,by omega,by simp,HBy.out.alloc HBy.out.size _⟩,by simp[intOf];omega⟩
     · obtain rfl:p=len:=by omega
       go_wp2_with fail
       exact⟨⟨k+1,by omega,by simp,HBy.out⟩,by simp[intOf];omega⟩
  · obtain rfl:k=n:=by omega
    have hnn:=HNN.out
    subst hnn
    obtain⟨x0,x1,x2,x3,x4⟩:=HCV.out wf (HWV.out _ HBf.out)
    have RN:=qAF (fun v=>qGX A0 A1 A2 A3 A4 n0 n1 n2 n3 n4 c0 c1 c2 c3 c4 (-1) v (.inl qj))
    have RM:=qAF (fun v=>qGX A0 A1 A2 A3 A4 n0 n1 n2 n3 n4 c0 c1 c2 c3 c4 (n1:Int) v (.inr (Int.le_refl _)))
    go_wp2_with (first
     |(go_at_call 7
       refine(AN.out _).mono ?_
       rintro e w5 ⟨rfl,hb5⟩
       have HB5:=qAF (HBf.out.trans (hb5.mono HBf.out.size))
       obtain⟨y0,y1,y2,y3,y4⟩:=HCV.out w5 (HWV.out _ HB5.out)
       clear hb5 x0 x1 x2 x3 x4)
     |(go_at_call 9
       first
       |(with_reducible refine(RN.out w5).mono ?_
         rintro e w6 ⟨rfl,hb6⟩
         have HB6:=qAF (HB5.out.trans (hb6.mono HB5.out.size))
         obtain⟨z0,z1,z2,z3,z4⟩:=HCV.out w6 (HWV.out _ HB6.out)
         clear hb6 y0 y1 y2 y3 y4)
       |(with_reducible refine(RM.out _).mono ?_
         rintro e w7 ⟨rfl,hb7⟩
         have HB7:=qAF (HB6.out.trans (hb7.mono HB6.out.size))
         clear hb7)))
    go_ret
    exact⟨rfl,HBB.out _ (HWV.out _ HB7.out)⟩
set_option maxRecDepth 100000 in
theorem lifted (os:Os) (started:os.Started) (H:Type) (enc:TypeId×Value→H):
 ReturnsInHanded {} Try.checked os 3 .any (Rows.irFitsSpec.pre6 enc Try.prog Try.f3 Rows.irFitsRow.domain false) (Rows.irFitsSpec.post enc Try.prog Try.f3 false true false false):=by
 refine returnsInHanded_of_change_sized (C:=Try.checked) own started qL Try.func3
  (ChangeSpec.witness6 (enc:=enc) (C:=Try.checked) false ⟨#[],#[.agg #[.slice none 0 0,.slice none 0 0,.slice none 0 0,.slice none 0 0,.slice none 0 0]],[]⟩ 8 qL qL qL qL) ?_
 intro W base args ds gs before hval0 hW hcnd hwz _
 have hval:∀(j:Nat) t v,Try.f3.params[j]? =some t→args[j]? =some v→Value.okWide Try.prog W .any base t v:=hval0
 have hW':=hW
 obtain⟨p,q,hA0,hV,rfl,hfz,hnd⟩:=hW
 have hA:DataW.TrodAll enc Try.prog W 0 (fun _=>true) true Try.f3.params.toList args.toList ds p:=hA0
 rw[Try.params3] at hA hval
 obtain⟨v0,vs0,d0,ds0,p0,q0,hargs,rfl,rfl,h0,r0⟩:=trodAll_cons hA
 obtain⟨rfl,rfl,rfl⟩:=trodAll_nil r0
 obtain rfl:args= #[v0]:=by cases args;simp_all
 obtain⟨rfl,rfl⟩:=trodVars_none hV
 refine jF ?_;intro lt0 hwz0
 obtain⟨cs0,m0,rfl,hm0,hz0⟩:=qCW h0 hwz0
 clear hA0 hval0
 refine(walk cs0 m0 W hm0 hz0).mono fun e W' ⟨he,bel⟩=> ?_
 subst he
 exact⟨_,rfl,_,_,_,[],_,[],hW',trodAll_mk1 (shut_bool Try.underlying4 _),(trodAll_cons_mk (Below.trod qEP qL (of_decide_eq_true qL) h0 bel lt0) trodAll_mk0),rfl,bel.frame _,fun h=>by cases h⟩
theorem over:Rows.irFitsRow.holds Try.pinned (OpenSpec.ofChange Rows.irFitsSpec):=
 OpenClaim.holds_of_wide 3 Try.f3 rfl rfl rfl rfl rfl rfl rfl ⟨rfl,rfl,rfl,rfl,rfl⟩ rfl rfl rfl rfl rfl qL Try.func3 qL
  (of_decide_eq_true qL) qt
  (fun os started H enc _=>lifted os started H enc)
/-- The statement. -/
theorem proved:Rows.IrFitsSaid:=over
end Go.Proofs.Ytelceoecekfamaa.irFits
