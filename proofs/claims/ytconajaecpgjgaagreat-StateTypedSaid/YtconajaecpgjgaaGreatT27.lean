/-
Rg3
-/
import Derived.Test.YtconajaecpgjgaaGreatT13
import Derived.BigQuiet
import Derived.Deep.DeepCutAuto
set_option linter.unusedSimpArgs false
set_option linter.unusedVariables false
set_option maxRecDepth 100000
set_option maxHeartbeats 4000000
namespace Go.Proofs.YtconajaecpgjgaaGreat
open Go.RowKit
theorem zR {P:Prop} (h:P:=by
 clear HSB
 go_quiet (fail)
 go_wp2_with fail
 go_ret2
 exact⟨HBW.out.trans ((qA7 _ _).mono hW0),rfl⟩):P:=h
theorem j6 {P:Prop} (h:P:=by
 clear HSB
 go_quiet (fail)
 go_wp2_with fail
 go_ret2
 exact⟨HBW.out.trans ((HBY.out.trans ((qA7 _ _).mono HBY.out.size)).mono hW0),rfl⟩):P:=h
theorem qAA {P:Prop} (h:P:=by
 clear HSB
 go_quiet (fail)
 go_wp2_with fail
 go_quiet (fail)
 go_wp2_with fail
 go_ret2
 exact⟨HBW.out.trans ((qEK _ _ _).mono hW0),rfl⟩):P:=h
theorem qJB {S:Nat→Prop} {w:World} {A:Option Addr} {fs:List Frm} (h:Sq frL S w A fs) {k:Nat} {f:Frm} (hk:fs[k]? =some f):
 ∃a P0 c0 P1 c1,A=some a∧S a.block∧w.cell? (a.add (k*4))=some (.int .i64 f.fn)∧w.cell? ⟨(a.add (k*4)).block,(a.add (k*4)).off+1,none⟩=some (.int .i64 f.pc)∧w.cell? ⟨(a.add (k*4)).block,(a.add (k*4)).off+2,none⟩=some (.slice P0 f.locs.length c0)∧
  w.cell? ⟨(a.add (k*4)).block,(a.add (k*4)).off+3,none⟩=some (.slice P1 f.stk.length c1)∧Sq numL S w P0 f.locs∧Sq numL S w P1 f.stk∧f.locs.length≤c0∧c0≤maxLen∧f.stk.length≤c1∧c1≤maxLen∧I64 f.fn∧I64 f.pc:=by
 obtain⟨a,cs,e,hs,hc,hR⟩:=h.at hk
 obtain⟨P0,c0,P1,c1,rfl,l0,m0,l1,m1,s0,s1,i0,i1⟩:=qBq hR
 have k0:=hc 0 _ rfl
 have k1:=hc 1 _ rfl
 have k2:=hc 2 _ rfl
 have k3:=hc 3 _ rfl
 rw[show k*frL.k+0=k*4 from rfl] at k0
 rw[show k*frL.k+1=k*4+1 from rfl,qAl a (k*4) 1 (by omega)] at k1
 rw[show k*frL.k+2=k*4+2 from rfl,qAl a (k*4) 2 (by omega)] at k2
 rw[show k*frL.k+3=k*4+3 from rfl,qAl a (k*4) 3 (by omega)] at k3
 exact⟨a,P0,c0,P1,c1,e,hs,k0,k1,k2,k3,s0,s1,l0,m0,l1,m1,i0,i1⟩
theorem qEK (W:World) (a b:Nat):Below W.heap.size W ((W.drewN a).drewN b):=(qA7 W a).trans ((qA7 (W.drewN a) b).mono (qAf _))
theorem qGJ (csm css:List Value) (m:Mod) (s:Stt) (D:Option Addr) (n c:Nat) (L:List (List Shape)) (k:Nat) (w:World) (hm:modL.R (·<w.heap.size) w csm m) (hs:stL.R (·<w.heap.size) w css s) (hl:L.length=n) (hL:Sq rowL (·<w.heap.size) w D L) (hn:n≤9223372036854775807) (hc:checkN m=0) (hr:RightM m L) (hk:k<s.fr.length) (h8:s.fr.length≤1000):
 Calls Tryz.prog 38 #[vAgg csm,.slice D n c,vAgg css,.int .i64 (k:Nat)] w fun e w'=>Below w.heap.size w w'∧AtIs (stackB m L s k) w.heap.size w e:=by
 obtain⟨A0,A1,A2,A3,A4,n0,n1,n2,n3,n4,d0,d1,d2,d3,d4,rfl⟩:=qCy hm
 obtain⟨F,cf,O,co,H,ch,rfl,-,-,-,-,-,-,sF,-⟩:=qBh hs
 obtain⟨f,hf⟩:∃f,s.fr[k]? =some f:=⟨s.fr[k],qAa hk⟩
 obtain⟨aF,P0,e0,P1,e1,rfl,hFb,f0,f1,f2,f3,-,-,-,-,-,-,iF,iP⟩:=qJB sF hf
 obtain⟨_,_,_,_,_,ex,-,⟨A1',d1',ex1,l1,m1,s1⟩,-,-,-⟩:=hm
 simp only[List.cons.injEq,and_true] at ex
 obtain⟨rfl,rfl,rfl,rfl,rfl⟩:=ex
 simp only[List.cons.injEq,Value.slice.injEq,and_true] at ex1
 obtain⟨rfl,h1,rfl⟩:=ex1
 have HBB:Hid (∀o1 o2:Obj,Below w.heap.size w ((w.alloc o1).alloc o2)):=fun o1 o2=>((qAe _ _).alloc (qAf _) _).alloc (by simp) _
 have z0:=fun o1 o2=>qAt f0 (HBB.out o1 o2)
 have z1:=fun o1 o2=>qAt f1 (HBB.out o1 o2)
 have z2:=fun o1 o2=>qAt f2 (HBB.out o1 o2)
 have z3:=fun o1 o2=>qAt f3 (HBB.out o1 o2)
 have HF:=qAZ hf
 have HS1:=qAZ s1
 have HSF:=qAZ sF
 have HSL:=qAZ hL
 have HR:=qAZ hr
 have HC:=qAZ hc
 have HN1:=qAZ h1
 have HLn:=qAZ hl
 obtain⟨nf,hnf⟩:∃x,s.fr.length=x:=⟨_,rfl⟩
 have HNF:=qAZ hnf
 rw[hnf] at hk h8
 obtain⟨o,ho⟩:∃o,stackB m L s k=o:=⟨_,rfl⟩
 have HSB:=qAZ ho
 rw[ho]
 simp only[vAgg]
 show Calls Tryz.prog 38 #[.agg #[.slice A0 n0 d0,.slice A1 n1 d1,.slice A2 n2 d2,.slice A3 n3 d3,.slice A4 n4 d4],.slice D n c,.agg #[.slice (some aF) s.fr.length cf,.slice O s.hp.length co,.slice H s.hn.length ch,.int .i64 s.quota,.int .i64 s.used,.int .i64 s.fin,.int .u64 (s.val:Int)],.int .i64 (k:Nat)] w _
 rw[hnf]
 obtain⟨v1,hv1⟩:∃v:Value,.slice O s.hp.length co=v:=⟨_,rfl⟩
 obtain⟨v2,hv2⟩:∃v:Value,.slice H s.hn.length ch=v:=⟨_,rfl⟩
 obtain⟨v3,hv3⟩:∃v:Value,.int .i64 s.quota=v:=⟨_,rfl⟩
 obtain⟨v4,hv4⟩:∃v:Value,.int .i64 s.used=v:=⟨_,rfl⟩
 obtain⟨v5,hv5⟩:∃v:Value,.int .i64 s.fin=v:=⟨_,rfl⟩
 obtain⟨v6,hv6⟩:∃v:Value,.int .u64 (s.val:Int)=v:=⟨_,rfl⟩
 rw[hv1,hv2,hv3,hv4,hv5,hv6]
 obtain⟨ff,hff⟩:∃x,f.fn=x:=⟨_,rfl⟩
 obtain⟨fp,hfp⟩:∃x,f.pc=x:=⟨_,rfl⟩
 obtain⟨lf,hlf⟩:∃x,f.locs.length=x:=⟨_,rfl⟩
 obtain⟨sf,hsf⟩:∃x,f.stk.length=x:=⟨_,rfl⟩
 have HFF:=qAZ hff
 have HFP:=qAZ hfp
 rw[hff] at f0 z0 iF
 rw[hfp] at f1 z1 iP
 rw[hlf] at f2 z2
 rw[hsf] at f3 z3
 unfold I64 at iF iP
 have k0:(0:Int)≤(k:Int):=by omega
 have k1:(k:Int)<(nf:Int):=by omega
 clear hf s1 sF hL hr hc h1 hl hnf ho hff hfp hlf hsf hs hv1 hv2 hv3 hv4 hv5 hv6 f0 f1 f2 f3 l1 m1 hFb
 go_enter Tryz.func38,Tryz.ntmps38
 go_upto_region 2 with(fail)
 refine qAp fun W hW=> ?_
 have hbw:Below w.heap.size w W:=by rw[hW];exact(((qAe _ _).alloc (qAf _) _).alloc (by simp) _).alloc qf _
 have hkm:Blk W w.heap.size 28 #[.slice A0 n0 d0,.slice A1 n1 d1,.slice A2 n2 d2,.slice A3 n3 d3,.slice A4 n4 d4]:=by rw[hW];exact qAd (qAd (qAm rfl))
 have hks:Blk W (w.heap.size+1) 36 #[.slice (some aF) nf cf,v1,v2,v3,v4,v5,v6]:=by rw[hW];exact qAd (qAm (by simp))
 have hkf:Blk W (w.heap.size+1+1) 67 #[.int .i64 ff,.int .i64 fp,.slice P0 lf e0,.slice P1 sf e1]:=by rw[hW];exact qAm (by simp)
 have HBW:=qAZ hbw
 have hW0:w.heap.size≤W.heap.size:=hbw.size
 have y0:W.cell? ⟨w.heap.size+1,0,none⟩=some (.slice (some aF) nf cf):=hks.cell 0
 have x1:W.cell? ⟨w.heap.size,1,none⟩=some (.slice A1 n1 d1):=hkm.cell 1
 have g0:W.cell? ⟨w.heap.size+1+1,0,none⟩=some (.int .i64 ff):=hkf.cell 0
 have g1:W.cell? ⟨w.heap.size+1+1,1,none⟩=some (.int .i64 fp):=hkf.cell 1
 clear hW hkm hks hkf hbw z0 z1 z2 z3 HBB
 by_cases c1:ff<0
 · obtain rfl:o=none:=by rw[←HSB.out];exact qBz HF.out (qDL (.inl (by rw[HFF.out];exact c1)))
   exact zR
 by_cases c2:(n1:Int)≤ff
 · obtain rfl:o=none:=by rw[←HSB.out];exact qBz HF.out (qG7 (by rw[HR.out.len,←HN1.out,HFF.out];omega))
   exact zR
 obtain⟨j,rfl⟩:∃j:Nat,ff=(j:Int):=⟨ff.toNat,by omega⟩
 have j0:(0:Int)≤(j:Int):=by omega
 have j1:(j:Int)<(n1:Int):=by omega
 obtain⟨fn,hfn⟩:∃fn,m.funcs[j]? =some fn:=⟨m.funcs[j]'(by rw[←HN1.out];omega),qAa _⟩
 obtain⟨a,Q0,q0,Q1,q1,Q2,q2,rfl,-,-,-,-,-,kk4,-,-,tc⟩:=qEg HS1.out hfn
 obtain⟨_,_,et,-,-,sc⟩:=tc
 simp only[List.cons.injEq,Value.slice.injEq,and_true] at et
 obtain⟨rfl,-,rfl⟩:=et
 have z4:=qAt kk4 HBW.out
 obtain⟨l,hlr,hlen,h88,hrr⟩:=HR.out.get hfn
 obtain⟨aL,E,ce,rfl,-,r0,rle,rcm,rsq⟩:=qCi HSL.out hlr
 have jn:(j:Int)<(n:Int):=by rw[←HLn.out,HR.out.len,←HN1.out];exact j1
 have z5:=qAt r0 HBW.out
 rw[hlen] at z5
 obtain⟨nc,hnc⟩:∃x,fn.code.length=x:=⟨_,rfl⟩
 rw[hnc] at z4 z5 hlen
 have HFN:=qAZ hfn
 have HLR:=qAZ hlr
 have HSC:=qAZ sc
 have HNC:=qAZ hnc
 have HLE:=qAZ hlen
 have HRS:=qAZ rsq
 clear kk4 r0 hfn hlr sc hnc hlen rsq rle rcm c1 c2 h88 hrr
 have c1:¬(j:Int)<0:=by omega
 have c2:¬(n1:Int)≤(j:Int):=by omega
 by_cases c3:fp<0
 · obtain rfl:o=none:=by rw[←HSB.out];exact qBz HF.out (qDL (.inr (by rw[HFP.out];exact c3)))
   exact zR
 by_cases c4:(nc:Int)≤fp
 · have c5:((fp.toNat:Nat):Int)=fp:=by omega
   obtain rfl:o=none:=by rw[←HSB.out];exact qBz HF.out (by rw[HFF.out,HFP.out];rw[←c5];exact qF6 HLR.out (by rw[HLE.out];omega))
   exact zR
 obtain⟨p,rfl⟩:∃p:Nat,fp=(p:Int):=⟨fp.toNat,by omega⟩
 have p0:(0:Int)≤(p:Int):=by omega
 have p1:(p:Int)<(nc:Int):=by omega
 clear c3 c4
 have c3:¬(p:Int)<0:=by omega
 have c4:¬(nc:Int)≤(p:Int):=by omega
 obtain⟨⟨sb,u⟩,hy⟩:∃y,l[p]? =some y:=⟨l[p]'(by rw[HLE.out];omega),qAa _⟩
 obtain⟨aE,G,g,rfl,-,r2,r3,gle,gcm,-,gsq⟩:=qCV HRS.out hy
 simp only at r2 r3 gle gsq
 have z6:=qAt r2 HBW.out
 have z7:=qAt r3 HBW.out
 have HO:=qAZ (qDK HLR.out hy)
 have HG:Hid (u.length≤g∧g≤maxLen∧Sq typL (·<w.heap.size) w G u):=⟨gle,gcm,gsq⟩
 obtain⟨nu,hnu⟩:∃x,u.length=x:=⟨_,rfl⟩
 have HNU:=qAZ hnu
 rw[hnu] at z7
 clear r2 r3 gle gcm gsq hnu hy
 cases sb
 · obtain rfl:o=none:=by rw[←HSB.out];exact qBz HF.out (by rw[HFF.out,HFP.out];exact HO.out)
   exact zR
 have HAT:Hid (atB L f.fn f.pc=some u):=by show _=_;rw[HFF.out,HFP.out];exact HO.out
 have wr1:IntKind.i64.wrap ((nf:Int)-1)=(nf:Int)-1:=by rw[qAv];omega
 by_cases hlast:k+1=nf
 · obtain rfl:o=some u:=by rw[←HSB.out,qDa HF.out (by rw[HNF.out];omega)];exact HAT.out
   have t5:((k:Int)==(nf:Int)-1)=true:=by simp;omega
   clear HSB hlast
   go_quiet (fail)
   go_wp2_with fail
   go_quiet (fail)
   go_wp2_with fail
   go_ret2
   refine⟨HBW.out.trans ((qEK _ _ _).mono hW0),G,g,?_,HG.out⟩
   rw[HNU.out]
   rfl
 have t5:((k:Int)==(nf:Int)-1)=false:=by simp;omega
 obtain⟨gf,hgf⟩:∃x,s.fr[k+1]? =some x:=⟨s.fr[k+1]'(by rw[HNF.out];omega),qAa _⟩
 have HOW:Hid (o=belowB m L (j:Int) (p:Int) gf.fn):=by show _=_;rw[←HSB.out,qDZ HF.out hgf HAT.out,HFF.out,HFP.out]
 obtain⟨aF',P2,e2,P3,e3,eF,-,f4,-⟩:=qJB HSF.out hgf
 injection eF with eF
 subst eF
 have z8:=qAt f4 HBW.out
 obtain⟨gn,hgn⟩:∃x,gf.fn=x:=⟨_,rfl⟩
 rw[hgn] at z8 HOW
 have kk0:(0:Int)≤((k+1:Nat):Int):=by omega
 have kk1:((k+1:Nat):Int)<(nf:Int):=by omega
 have wr3:IntKind.i64.wrap ((k:Int)+1)=((k+1:Nat):Int):=by rw[qAv];omega
 clear hgn f4 hgf HAT hlast wr3 wr1
 have wr1:IntKind.i64.wrap ((nf:Int)-1)=(nf:Int)-1:=by rw[qAv];omega
 by_cases hp0:p=0
 · have HP0:=qAZ hp0
   have t6:((p:Int)==0)=true:=by simp;omega
   clear hp0
   obtain rfl:o=none:=by rw[HOW.out];exact(qDT (qDL (.inr (by have:=HP0.out;omega))))
   exact qAA
 obtain⟨pp,hpp⟩:∃pp:Nat,p=pp+1:=⟨p-1,by omega⟩
 have t6:((p:Int)==0)=false:=by simp;omega
 have wr2:IntKind.i64.wrap ((p:Int)-1)=(pp:Int):=by rw[qAv];omega
 have pp0:(0:Int)≤(pp:Int):=by omega
 have pp1:(pp:Int)<(nc:Int):=by omega
 obtain⟨⟨sb,u2⟩,hy2⟩:∃y,l[pp]? =some y:=⟨l[pp]'(by rw[HLE.out];omega),qAa _⟩
 obtain⟨aE',G2,g2,eE,-,r4,r5,gle,gcm,-,gsq⟩:=qCV HRS.out hy2
 injection eE with eE
 subst eE
 simp only at r4 r5 gle gsq
 have z9:=qAt r4 HBW.out
 have z10:=qAt r5 HBW.out
 have HO2:=qAZ (qDK HLR.out hy2)
 have HG2:Hid (u2.length≤g2∧g2≤maxLen∧Sq typL (·<w.heap.size) w G2 u2):=⟨gle,gcm,gsq⟩
 have HY2:=qAZ hy2
 obtain⟨nu2,hnu2⟩:∃x,u2.length=x:=⟨_,rfl⟩
 have HNU2:=qAZ hnu2
 rw[hnu2] at z10
 have HPP:Hid ((p:Int)=(pp:Int)+1):=by show _=_;omega
 clear r4 r5 gle gcm gsq hnu2 hy2 hp0 hpp
 cases sb
 · obtain rfl:o=none:=by rw[HOW.out];exact(qDT (by rw[HPP.out,show(pp:Int)+1-1=(pp:Int) by omega];exact HO2.out))
   exact qAA
 obtain⟨⟨io,ix,iy⟩,hi⟩:∃i,fn.code[pp]? =some i:=⟨fn.code[pp]'(by rw[HNC.out];omega),qAa _⟩
 obtain⟨ac,csc,rfl,-,hcc,rfl,-⟩:=HSC.out.at hi
 have w0:=hcc 0 _ rfl
 have w1:=hcc 1 _ rfl
 have w2:=hcc 2 _ rfl
 rw[show pp*insL.k+0=pp*3 from rfl] at w0
 rw[show pp*insL.k+1=pp*3+1 from rfl,qAl ac (pp*3) 1 (by omega)] at w1
 rw[show pp*insL.k+2=pp*3+2 from rfl,qAl ac (pp*3) 2 (by omega)] at w2
 simp only at w0 w1 w2
 have z11:=qAt w0 HBW.out
 have z12:=qAt w1 HBW.out
 have z13:=qAt w2 HBW.out
 have HBB2:=qAZ (qEo (g:=gn) HFN.out HLR.out HY2.out hi)
 have HCT:=qAZ (fun h25=>qEJ HC.out HR.out HFN.out HLR.out HY2.out hi h25)
 have HSS:Hid (∀v,Below W.heap.size W v→v.cell? ⟨w.heap.size,1,none⟩=some (.slice (some a) n1 d1)∧v.cell? ⟨w.heap.size+1+1,0,none⟩=some (.int .i64 (j:Int))∧v.cell? ⟨w.heap.size+1+1,1,none⟩=some (.int .i64 (p:Int))∧v.cell? ⟨(a.add (j*5)).block,(a.add (j*5)).off+4,none⟩=some (.slice (some ac) nc q2)∧v.cell? (ac.add (pp*3))=some (.int .i64 io)∧v.cell? ⟨(ac.add (pp*3)).block,(ac.add (pp*3)).off+1,none⟩=some (.int .i64 ix)∧v.cell? ⟨(ac.add (pp*3)).block,(ac.add (pp*3)).off+2,none⟩=some (.int .i64 iy)):=fun v hb=>⟨qAt x1 hb,qAt g0 hb,qAt g1 hb,qAt z4 hb,qAt z11 hb,qAt z12 hb,qAt z13 hb⟩
 clear w0 w1 w2 hcc hi
 go_quiet (fail)
 go_wp2_with fail
 go_quiet (fail)
 go_upto_region 8 with(fail)
 refine qAp fun X hX=> ?_
 have HX:Hid (Below W.heap.size W X):=by show Below _ _ _;rw[hX];exact qEK _ _ _
 clear hX
 go_region_held3 (fun v=>v.cell? ⟨w.heap.size,1,none⟩=some (.slice (some a) n1 d1)∧v.cell? ⟨w.heap.size+1+1,0,none⟩=some (.int .i64 (j:Int))∧v.cell? ⟨w.heap.size+1+1,1,none⟩=some (.int .i64 (p:Int))∧v.cell? ⟨(a.add (j*5)).block,(a.add (j*5)).off+4,none⟩=some (.slice (some ac) nc q2)∧v.cell? (ac.add (pp*3))=some (.int .i64 io)∧v.cell? ⟨(ac.add (pp*3)).block,(ac.add (pp*3)).off+1,none⟩=some (.int .i64 ix)∧v.cell? ⟨(ac.add (pp*3)).block,(ac.add (pp*3)).off+2,none⟩=some (.int .i64 iy))
  (first|exact HSS.out _ HX.out.drew|exact HSS.out _ (HX.out.drew.alloc (by have:=HX.out.size;simp;omega) _)|exact HSS.out _ ((HX.out.drew.alloc (by have:=HX.out.size;simp;omega) _).setCell (by have:=HX.out.size;simp;omega) _))
  (fail)
 go_upto_region 9 with(fail)
 refine qAp fun Y hY=> ?_
 have hyb:Below X.heap.size X Y:=by rw[hY];exact((qAe _ _).alloc (qAf _) _).drew
 have hki:Blk Y X.heap.size 65 #[.int .i64 io,.int .i64 ix,.int .i64 iy]:=by rw[hY];exact(qAm rfl:Blk (X.alloc _) _ _ _)
 have HBY:Hid (Below W.heap.size W Y):=HX.out.trans (hyb.mono HX.out.size)
 have i0:Y.cell? ⟨X.heap.size,0,none⟩=some (.int .i64 io):=hki.cell 0
 have i1:Y.cell? ⟨X.heap.size,1,none⟩=some (.int .i64 ix):=hki.cell 1
 replace y0:=qAt y0 HBY.out
 replace x1:=qAt x1 HBY.out
 replace g0:=qAt g0 HBY.out
 replace g1:=qAt g1 HBY.out
 replace z5:=qAt z5 HBY.out
 replace z8:=qAt z8 HBY.out
 replace z10:=qAt z10 HBY.out
 have wr3:IntKind.i64.wrap ((k:Int)+1)=((k+1:Nat):Int):=by rw[qAv];omega
 clear hY hyb hki HSS z4 z6 z7 z9 z11 z12 z13 t5 t6
 by_cases q25:io=25
 rotate_left
 · have t7:(io != 25)=true:=by simpa using q25
   obtain rfl:o=none:=by rw[HOW.out];exact(by rw[HPP.out,HBB2.out,if_neg (fun h=>q25 h.1)])
   exact j6
 have t7:(io != 25)=false:=by simpa using q25
 by_cases qg:ix=gn
 rotate_left
 · have t8:(ix != gn)=true:=by simpa using qg
   obtain rfl:o=none:=by rw[HOW.out];exact(by rw[HPP.out,HBB2.out,if_neg (fun h=>qg h.2)])
   exact j6
 have t8:(ix != gn)=false:=by simpa using qg
 obtain⟨gi,h',hix,-,hgf,hle⟩:=HCT.out q25
 subst hix
 subst qg
 subst q25
 have HOW2:Hid (o=some (u2.take (u2.length-h'.args.length))):=by
  show _=_
  rw[HOW.out,HPP.out,HBB2.out,if_pos ⟨rfl,rfl⟩]
  simp[hgf]
 obtain⟨a',R0,e0',R1,e1',R2,e2',ea',-,r0,-,-,-,-,tA,-,-⟩:=qEg HS1.out hgf
 injection ea' with ea'
 subst ea'
 have hgn1:gi<n1:=by rw[HN1.out];exact(qAh.1 hgf).1
 have hg0:(0:Int)≤(gi:Int):=by omega
 have hg1:(gi:Int)<(n1:Int):=by omega
 obtain⟨na,hna⟩:∃na,h'.args.length=na:=⟨_,rfl⟩
 obtain⟨q,hq⟩:∃q,nu2=na+q:=⟨nu2-na,by have:=HNU2.out;omega⟩
 have z14:=qAt (qAt r0 HBW.out) HBY.out
 rw[hna] at z14 HOW2
 rw[HNU2.out,show nu2-na=q by omega] at HOW2
 have HQ:=qAZ hq
 have e1w:IntKind.i64.wrap ((nu2:Int)-(na:Int))=(q:Int):=by rw[qAv];have:=HG2.out.1;have:=HG2.out.2.1;unfold maxLen at this;rw[HNU2.out] at *;omega
 have b6:(q:Int)≤(g2:Int):=by have:=HG2.out.1;rw[HNU2.out] at this;omega
 have wr2:IntKind.i64.wrap ((p:Int)-1)=(pp:Int):=by rw[qAv];have:=HPP.out;omega
 obtain rfl:=HOW2.out
 clear HSB HOW HOW2 HCT HBB2 r0 tA hgf hna hq hle hgn1
 go_quiet (fail)
 go_wp2_with fail
 go_quiet (fail)
 go_wp2_with fail
 go_ret2
 have hlen:(u2.take q).length=q:=by rw[List.length_take,HNU2.out,HQ.out];omega
 refine⟨HBW.out.trans ((HBY.out.trans ((qA7 _ _).mono HBY.out.size)).mono hW0),G2,g2,by rw[hlen];rfl,by rw[hlen];omega,HG2.out.2.1,HG2.out.2.2.take q⟩
end Go.Proofs.YtconajaecpgjgaaGreat
