/-
Mni Mnj Mnh Mbb
-/
import Derived.Test.YtgdbhanhmenmfaaGreatQ05
import Derived.Test.YtgdbhanhmenmfaaGreatQ09
import Derived.Test.YtgdbhanhmenmfaaGreatQ13
import Derived.Test.YtgdbhanhmenmfaaGreatQ15
import Derived.Test.YtgdbhanhmenmfaaGreatQ23
import Derived.Test.YtgdbhanhmenmfaaGreatQ32
import Derived.Test.YtgdbhanhmenmfaaGreatQ35
set_option linter.unusedSimpArgs false
set_option linter.unusedVariables false
set_option maxRecDepth 100000
set_option maxHeartbeats 2000000
namespace Go.Proofs.YtgdbhanhmenmfaaGreat
open Go.RowKit
variable {L:List (List Shape)}{N:Nat}{P:Pr}{S:Nat→Prop}{gh gm go k:Nat}{m:Mod}{s:Stt}{v:Value}{w:World}
theorem run_wld (g h:Nat) (q f v:Int) (w:World):(Instr.build 86 #[(0,.pointer (some ⟨g,0,none⟩)),(1,.pointer (some ⟨h,0,none⟩)),(2,.int .i64 q),(3,.int .i64 f),(4,.int .u64 v)]).run Tryz.prog w= .ok (.agg #[.pointer (some ⟨g,0,none⟩),.pointer (some ⟨h,0,none⟩),.int .i64 q,.int .i64 f,.int .u64 v]) w:=by kernel_rfl
theorem run_mac (g h:Nat) (q f v:Int) (A0 A1 A2 A3 A4 A5:Option Addr) (n0 n1 n2 n3 n4 n5 c0 c1 c2 c3 c4 c5:Nat) (w:World):(Instr.build 91 #[(0,.agg #[.pointer (some ⟨g,0,none⟩),.pointer (some ⟨h,0,none⟩),.int .i64 q,.int .i64 f,.int .u64 v]),(1,.agg #[.slice A0 n0 c0,.slice A1 n1 c1,.slice A2 n2 c2,.slice A3 n3 c3,.slice A4 n4 c4]),(2,.slice A5 n5 c5)]).run Tryz.prog w=
 .ok (.agg #[.pointer (some ⟨g,0,none⟩),.pointer (some ⟨h,0,none⟩),.int .i64 q,.int .i64 f,.int .u64 v,.slice A0 n0 c0,.slice A1 n1 c1,.slice A2 n2 c2,.slice A3 n3 c3,.slice A4 n4 c4,.slice A5 n5 c5]) w:=by kernel_rfl
theorem qKP (cs:List Value) (m:Mod) (w:World) (h:modL.R (·<w.heap.size) w cs m) (hf:fitB m=true):
 Calls Tryz.prog 27 #[vAgg cs] w fun e w'=>∃cs',e= .returned (vAgg cs')∧modL.R (fun b=>w.heap.size≤b∧b<w'.heap.size) w' cs' m∧Below w.heap.size w w':=by
 have hfit:=qBw.1 hf;obtain⟨A0,A1,A2,A3,A4,n0,n1,n2,n3,n4,d0,d1,d2,d3,d4,rfl⟩:=qCj h;have hints:∀n∈m.ints,n<B64:=by
  obtain⟨v0,v1,v2,v3,v4,e,-,-,-,⟨A,c,e3,-,-,hs⟩,-⟩:=h;exact qEP hs
 have htx:∀s∈m.texts,∀z∈s,z<256:=by
  obtain⟨v0,v1,v2,v3,v4,e,-,-,-,-,⟨A,c,e3,-,-,hs⟩⟩:=h;intro x hx;obtain⟨j,hj⟩:=qBk.1 hx;obtain⟨a,cs,-,-,-,y,-,rfl⟩:=hs.at hj;exact qJZ y
 have HE:Hid (∀V,Below w.heap.size w V→Calls Tryz.prog 62 #[.agg #[.slice A0 n0 d0,.slice A1 n1 d1,.slice A2 n2 d2,.slice A3 n3 d3,.slice A4 n4 d4]] V fun e w'=>∃A c,e= .returned (.tuple #[.slice A (modB m).length c,.int .i64 0])∧Byt (·<w'.heap.size) w' A (modB m)∧Below V.heap.size V w'):=fun V hV=>by
  refine(qF6 _ m V (qCA h hV)).mono ?_;rintro e w' ⟨hb,⟨h0,-⟩|⟨-,u,rfl,ho⟩⟩
  · rw[hf] at h0;cases h0
  · obtain⟨A,c,rfl,-,-,-,hB⟩:=qBu ho
    exact⟨A,c,rfl,hB.wide fun b hb=>hb.2,hb⟩
 have HD:Hid (∀V A c,Byt (·<V.heap.size) V A (modB m)→Calls Tryz.prog 63 #[.slice A (modB m).length c] V fun e w'=>∃A0 n0 d0 A1 n1 d1 A2 n2 d2 A3 n3 d3 A4 n4 d4,e= .returned (.tuple #[.agg #[.slice A0 n0 d0,.slice A1 n1 d1,.slice A2 n2 d2,.slice A3 n3 d3,.slice A4 n4 d4],.int .i64 0])∧modL.R (fun b=>V.heap.size≤b∧b<w'.heap.size) w' [.slice A0 n0 d0,.slice A1 n1 d1,.slice A2 n2 d2,.slice A3 n3 d3,.slice A4 n4 d4] m∧Below V.heap.size V w'):=fun V A c hB=>by
  refine(qKN A (modB m).length c (modB m) V rfl (qJw m htx) hB (by have:=hfit.len;omega)).mono ?_;rintro e w' ⟨hb,⟨m',cs',⟨f1,f2,f3⟩,rfl,hR⟩|⟨h0,-⟩⟩
  · obtain rfl:=qJv hfit f1 hints f2 f3
    obtain⟨B0,B1,B2,B3,B4,k0,k1,k2,k3,k4,c0,c1,c2,c3,c4,rfl⟩:=qCj hR;exact⟨_,_,_,_,_,_,_,_,_,_,_,_,_,_,_,rfl,hR,hb⟩
  · exact absurd ⟨m,hfit,hints,rfl⟩ h0
 show Calls Tryz.prog 27 #[.agg #[.slice A0 n0 d0,.slice A1 n1 d1,.slice A2 n2 d2,.slice A3 n3 d3,.slice A4 n4 d4]] w _
 clear h hf hfit hints
 go_enter Tryz.func27,Tryz.ntmps27
 go_wp2_with (first
  |(go_at_call 62
    refine(HE.out _ (((qBO _ _).alloc (qBL _) _).alloc (by simp) _)).mono ?_;rintro e w1 ⟨B,c1,rfl,hB1,hb1⟩;have HB1:=qBK hb1;have HY1:=qBK hB1;clear hb1 hB1)
  |(go_at_call 63
    refine(HD.out _ _ _ HY1.out).mono ?_;rintro e w2 ⟨B0,k0,e0,B1,k1,e1,B2,k2,e2,B3,k3,e3,B4,k4,e4,rfl,hR2,hb2⟩;have HB2:=qBK hb2;have HR2:=qBK hR2;have hz:Blk (w1) (w.heap.size+1) 28 #[.slice none 0 0,.slice none 0 0,.slice none 0 0,.slice none 0 0,.slice none 0 0]:=qBf (qBl (by simp)) HB1.out (by simp);have hz2:=qBf hz hb2 hz.lt;have x0:=fun ob=>(qBc (o:=ob) hz2).cell 0;have f0:=fun ob=>(qBc (o:=ob) hz2).frozen 0;have x1:=fun ob=>(qBc (o:=ob) hz2).cell 1;have f1:=fun ob=>(qBc (o:=ob) hz2).frozen 1;have x2:=fun ob=>(qBc (o:=ob) hz2).cell 2;have f2:=fun ob=>(qBc (o:=ob) hz2).frozen 2;have x3:=fun ob=>(qBc (o:=ob) hz2).cell 3;have f3:=fun ob=>(qBc (o:=ob) hz2).frozen 3;have x4:=fun ob=>(qBc (o:=ob) hz2).cell 4;have f4:=fun ob=>(qBc (o:=ob) hz2).frozen 4;clear hb2 hR2 hz hz2))
 refine bodyPost_ret (v:= .agg #[.slice B0 k0 e0,.slice B1 k1 e1,.slice B2 k2 e2,.slice B3 k3 e3,.slice B4 k4 e4]) (by simp[results,Tryz.results27,go_sem,x0,x1,x2,x3,x4]) rfl ⟨[.slice B0 k0 e0,.slice B1 k1 e1,.slice B2 k2 e2,.slice B3 k3 e3,.slice B4 k4 e4],rfl,?_,?_⟩
 · refine qAT ?_;intro hz1 hz0
   refine modL.wide (modL.keep HR2.out fun b hb=> ?_) fun b hb=>⟨by omega,by simp[World.setCell];omega⟩;have hne:b≠w.heap.size+1:=by omega
   have hlt:b<w2.heap.size:=hb.2
   repeat(first|with_reducible exact qBX w2 _ b hlt|with_reducible exact rfl|(with_reducible refine(qBP _ _ _ _ ?_).trans ?_;exact hne))
 · refine qAT ?_;intro hz1 hz0
   have hb2:Below w.heap.size w w2:=(((qBO _ w).alloc (qBL _) _).alloc (by simp) _).trans ((HB1.out.trans (HB2.out.mono hz1)).mono (by omega));have hb:=hb2.alloc hb2.size (.cells #[.slice B0 k0 e0,.slice B1 k1 e1,.slice B2 k2 e2,.slice B3 k3 e3,.slice B4 k4 e4] 28);exact zD
theorem qHw (cs:List Value) (s:Stt) (w:World) (h:stL.R (·<w.heap.size) w cs s) (hz:s.low) (hq:0≤s.quota∧s.quota≤65536) (hu:0≤s.used∧s.used≤65536):
 Calls Tryz.prog 26 #[vAgg cs] w fun e w'=>∃go gh m,e= .returned (.agg #[.pointer (some ⟨go,0,none⟩),.pointer (some ⟨gh,0,none⟩),.int .i64 s.quota,.int .i64 s.fin,.int .u64 (s.val:Int)])∧IsHp (fun b=>w.heap.size≤b∧b<m) w' go s.hp s.quota s.used∧IsTb (fun b=>m≤b∧b<w'.heap.size) w' gh s.hn∧m≤w'.heap.size∧Below w.heap.size w w':=by
 obtain⟨F,cf,O,co,H,ch,rfl,-,-,-,-,-,-,sF,sO,sH,i1,i2,i3,i4⟩:=qCV h;obtain⟨z1,z2,z3,z4,z5⟩:=hz;have HN:Hid (∀V,Below w.heap.size w V→Calls Tryz.prog 60 #[.slice O s.hp.length co,.int .i64 s.quota,.int .i64 s.used] V fun e w'=>∃g,e= .returned (.pointer (some ⟨g,0,none⟩))∧IsHp (fun b=>V.heap.size≤b∧b<w'.heap.size) w' g s.hp s.quota s.used∧Below V.heap.size V w'):=fun V hV=>by
  have:=qK0 O s.hp.length co s.hp s.quota s.used V rfl ((sO.keep fun b hb=>hV.block b hb).wide fun b hb=>qBN hb hV.size) z5 (by omega) ⟨by omega,by omega⟩ ⟨by omega,by omega⟩;rw[show max (-1099511627776) (min s.quota 1099511627776)=s.quota by omega,show max (-1099511627776) (min s.used 1099511627776)=s.used by omega] at this;refine this.mono ?_;rintro e w' ⟨g,rfl,-,hh,hb⟩;exact⟨g,rfl,hh,hb⟩
 have HT:Hid (∀V,Below w.heap.size w V→Calls Tryz.prog 61 #[.slice H s.hn.length ch] V fun e w'=>∃g,e= .returned (.pointer (some ⟨g,0,none⟩))∧IsTb (fun b=>V.heap.size≤b∧b<w'.heap.size) w' g s.hn∧Below V.heap.size V w'):=fun V hV=>by
  refine(qMi H s.hn.length ch s.hn V rfl ((sH.keep fun b hb=>hV.block b hb).wide fun b hb=>qBN hb hV.size) (by omega)).mono ?_;rintro e w' ⟨g,rfl,-,hh,hb⟩;exact⟨g,rfl,hh,hb⟩
 have bw:=run_wld
 show Calls Tryz.prog 26 #[.agg #[.slice F s.fr.length cf,.slice O s.hp.length co,.slice H s.hn.length ch,.int .i64 s.quota,.int .i64 s.used,.int .i64 s.fin,.int .u64 (s.val:Int)]] w _
 clear h z1 z2 z3 z4 z5 sF sO sH
 go_enter Tryz.func26,Tryz.ntmps26
 go_upto_region 1 with(fail)
 refine qBV fun W hW=> ?_;have hB:Below w.heap.size w W:=by rw[hW];exact((qBO _ _).alloc (qBL _) _).alloc (by simp) _
 have hk:Blk W w.heap.size 34 #[.slice F s.fr.length cf,.slice O s.hp.length co,.slice H s.hn.length ch,.int .i64 s.quota,.int .i64 s.used,.int .i64 s.fin,.int .u64 (s.val:Int)]:=by rw[hW];exact qBc (qBl rfl)
 have hk2:Blk W (w.heap.size+1) 86 #[.pointer none,.pointer none,.int .i64 0,.int .i64 0,.int .u64 0]:=by rw[hW];exact qBl (by simp)
 have hsW:W.heap.size=w.heap.size+2:=by rw[hW];simp
 have HB:=qBK hB;have HK:Hid (∀V,Below W.heap.size W V→V.cell? ⟨w.heap.size,1,none⟩=some (.slice O s.hp.length co)∧V.cell? ⟨w.heap.size,2,none⟩=some (.slice H s.hn.length ch)∧V.cell? ⟨w.heap.size,3,none⟩=some (.int .i64 s.quota)∧V.cell? ⟨w.heap.size,4,none⟩=some (.int .i64 s.used)∧V.cell? ⟨w.heap.size,5,none⟩=some (.int .i64 s.fin)∧V.cell? ⟨w.heap.size,6,none⟩=some (.int .u64 (s.val:Int))):=fun V hV=>by
  have q:=qBf hk hV (by omega);exact⟨q.cell 1,q.cell 2,q.cell 3,q.cell 4,q.cell 5,q.cell 6⟩
 have HK2:Hid (∀V,Below W.heap.size W V→Blk V (w.heap.size+1) 86 #[.pointer none,.pointer none,.int .i64 0,.int .i64 0,.int .u64 0]):=fun V hV=>qBf hk2 hV (by omega);have HKS:Hid (∀(V:World) (i:Nat) (u:Value),(V.cell? ⟨w.heap.size,1,none⟩=some (.slice O s.hp.length co)∧V.cell? ⟨w.heap.size,2,none⟩=some (.slice H s.hn.length ch)∧V.cell? ⟨w.heap.size,3,none⟩=some (.int .i64 s.quota)∧V.cell? ⟨w.heap.size,4,none⟩=some (.int .i64 s.used)∧V.cell? ⟨w.heap.size,5,none⟩=some (.int .i64 s.fin)∧V.cell? ⟨w.heap.size,6,none⟩=some (.int .u64 (s.val:Int)))→(fun V:World=>V.cell? ⟨w.heap.size,1,none⟩=some (.slice O s.hp.length co)∧V.cell? ⟨w.heap.size,2,none⟩=some (.slice H s.hn.length ch)∧V.cell? ⟨w.heap.size,3,none⟩=some (.int .i64 s.quota)∧V.cell? ⟨w.heap.size,4,none⟩=some (.int .i64 s.used)∧V.cell? ⟨w.heap.size,5,none⟩=some (.int .i64 s.fin)∧V.cell? ⟨w.heap.size,6,none⟩=some (.int .u64 (s.val:Int))) (V.setCell ⟨w.heap.size+1,i,none⟩ u)):=fun V i u q=>by
  have e:∀o,(V.setCell ⟨w.heap.size+1,i,none⟩ u).cell? ⟨w.heap.size,o,none⟩=V.cell? ⟨w.heap.size,o,none⟩:=fun o=>qBd (a:=⟨w.heap.size,o,none⟩) (qBP V ⟨w.heap.size+1,i,none⟩ u w.heap.size (by simp));exact⟨(e _).trans q.1,(e _).trans q.2.1,(e _).trans q.2.2.1,(e _).trans q.2.2.2.1,(e _).trans q.2.2.2.2.1,(e _).trans q.2.2.2.2.2⟩
 have HBB:Hid (∀V,Below W.heap.size W V→Below w.heap.size w V):=fun V hV=>HB.out.trans (hV.mono (by omega));clear hW hk hk2 hB;obtain⟨d1,d2,d3,d4,d5,d6⟩:=HK.out _ (qBO _ W).drew
 go_region_held3 (fun V=>V.cell? ⟨w.heap.size,1,none⟩=some (.slice O s.hp.length co)∧V.cell? ⟨w.heap.size,2,none⟩=some (.slice H s.hn.length ch)∧V.cell? ⟨w.heap.size,3,none⟩=some (.int .i64 s.quota)∧V.cell? ⟨w.heap.size,4,none⟩=some (.int .i64 s.used)∧V.cell? ⟨w.heap.size,5,none⟩=some (.int .i64 s.fin)∧V.cell? ⟨w.heap.size,6,none⟩=some (.int .u64 (s.val:Int)))
  (first
  |with_reducible exact⟨d1,d2,d3,d4,d5,d6⟩
  |(have hz:=HB2.out;clear hz;first|with_reducible exact HK.out _ HB2.out|(repeat with_reducible refine HKS.out _ _ _ ?_);with_reducible exact HK.out _ HB2.out)
  |with_reducible exact HK.out _ HB1.out)
  (first
  |(go_at_call 60
    refine(HN.out _ HB.out.drew).mono ?_;rintro e w1 ⟨g1,rfl,hh1,hb1⟩;have HH1:Hid (IsHp (fun b=>W.heap.size≤b∧b<w1.heap.size) w1 g1 s.hp s.quota s.used):=hh1;have HB1:Hid (Below W.heap.size W w1):=(qBO _ W).drew.trans hb1;clear hh1 hb1)
  |(go_at_call 61
    refine(HT.out _ (HBB.out _ HB1.out)).mono ?_;rintro e w2 ⟨g2,rfl,hh2,hb2⟩;have HH2:=qBK hh2;have HB2:Hid (Below W.heap.size W w2):=HB1.out.trans (hb2.mono HB1.out.size);have HH12:Hid (IsHp (fun b=>W.heap.size≤b∧b<w1.heap.size) w2 g1 s.hp s.quota s.used):=HH1.out.keep (fun b h1 _=>hb2.block b h1) fun b hb=>hb.2;have HZ:Hid (w1.heap.size≤w2.heap.size):=hb2.size;have hkk:=HK2.out _ HB2.out;have x0:=hkk.cell 0;have x1:=hkk.cell 1;have x2:=hkk.cell 2;have x3:=hkk.cell 3;have x4:=hkk.cell 4;have f0:=hkk.frozen 0;have f1:=hkk.frozen 1;have f2:=hkk.frozen 2;have f3:=hkk.frozen 3;have f4:=hkk.frozen 4;clear hh2 hb2 hkk))
 all_goals(go_wp2_with fail)
 all_goals
  refine bodyPost_ret (v:= .agg #[.pointer (some ⟨g1,0,none⟩),.pointer (some ⟨g2,0,none⟩),.int .i64 s.quota,.int .i64 s.fin,.int .u64 (s.val:Int)]) (by simp[results,Tryz.results26,go_sem,x0,x1,x2,x3,x4]) rfl ⟨g1,g2,w1.heap.size,rfl,?_,?_,by simpa[World.setCell] using HZ.out,?_⟩
  · refine(HH12.out.keep (fun b _ hb=> ?_) fun b hb=>qBN hb.2 HZ.out).wide fun b hb=>⟨by omega,hb.2⟩
    have hne:b≠w.heap.size+1:=by omega
    exact qi
  · have hz1:=HB1.out.size
    refine(HH2.out.keep (fun b _ hb=> ?_)).wide fun b _ hb=>⟨hb.1,by simp[World.setCell];exact hb.2⟩;have hne:b≠w.heap.size+1:=by omega
    exact qi
  · have hb:=HBB.out _ HB2.out
    exact zD
theorem qIZ (h:LeastM m L):¬NeverM m:=h.right.never
theorem qI8 {x:Mod} {w':World} {e:Ending} (h:Checked x w e w') (hc:checkN x=0) (hm:mainB x=true) (hL:LeastM x L):Below w.heap.size w w'∧∃U A c,e= .returned (.tuple #[.slice A L.length c,.int .i64 0,.int .i64 0,.int .i64 0])∧(slL (rowU U)).R (fun b=>w.heap.size≤b∧b<w'.heap.size) w' [.slice A L.length c] L∧(∀a,A=some a→¬U a.block)∧∀b,U b→w.heap.size≤b:=by
 obtain⟨hb,⟨h1,-⟩|⟨-,h1,-⟩|⟨-,-,h1,-⟩|⟨-,-,U,L2,A,c,hL2,rfl,h3,h4,h5⟩⟩:=h
 · exact absurd hc h1
 · rw[hm] at h1;cases h1
 · exact absurd h1 (qIZ hL)
 · obtain rfl:=hL.same hL2
   exact⟨hb,U,A,c,rfl,h3,h4,h5⟩
theorem qOR (A B C:Option Addr) (n k l c d e:Nat) (q u f v:Int) (w:World):(Instr.field 34 (.agg #[.slice A n c,.slice B k d,.slice C l e,.int .i64 q,.int .i64 u,.int .i64 f,.int .u64 v]) 0).run Tryz.prog w= .ok (.slice A n c) w:=by kernel_rfl
theorem Mc.make {w3 w4 w5:World} {M:Nat} {A0 A1 A2 A3 A4 A5:Option Addr} {n0 n1 n2 n3 n4 n5 d0 d1 d2 d3 d4 d5:Nat} {tg:Nat→Nat} {css:List (List Value)} (hN:N≤M) (hp:IsHp (fun b=>N≤b∧b<M) w3 go s.hp s.quota s.used) (tb:IsTb (fun b=>M≤b∧b<w3.heap.size) w3 gh s.hn) (hM:M≤w3.heap.size)
 (md:modL.R (fun b=>w3.heap.size≤b∧b<w4.heap.size) w4 [.slice A0 n0 d0,.slice A1 n1 d1,.slice A2 n2 d2,.slice A3 n3 d3,.slice A4 n4 d4] m) (h34:Below w3.heap.size w3 w4) (h45:Below w4.heap.size w4 w5) (fr:Fr tg w5 (.slice A5 n5 d5) css s.fr) (ht:∀b,tg b≠0→w4.heap.size≤b∧b<w5.heap.size) (ok:I64 s.quota∧I64 s.fin∧s.val<B64):
 Mc (fun b=>N≤b∧b<w5.heap.size+1) m w5.heap.size go gh ⟨.slice A0 n0 d0,.slice A1 n1 d1,.slice A2 n2 d2,.slice A3 n3 d3,.slice A4 n4 d4⟩ (.slice A5 n5 d5) (w5.alloc (.cells #[.pointer (some ⟨go,0,none⟩),.pointer (some ⟨gh,0,none⟩),.int .i64 s.quota,.int .i64 s.fin,.int .u64 (s.val:Int),.slice A0 n0 d0,.slice A1 n1 d1,.slice A2 n2 d2,.slice A3 n3 d3,.slice A4 n4 d4,.slice A5 n5 d5] 91)) s:=by
 have s4:=h34.size;have s5:=h45.size;obtain⟨tg',t1⟩:∃tg':Nat→Nat,∀b,tg' b=if b=w5.heap.size then 1 else if w4.heap.size≤b then tg b else if w3.heap.size≤b then 4 else if M≤b then 3 else if N≤b then 2 else 0:=⟨_,fun b=>rfl⟩
 have tF:∀b,tg b≠0→tg' b=tg b:=fun b hb=>by have:=ht b hb;rw[t1,if_neg (by omega),if_pos (by omega)]
 have t2:∀b,N≤b→b<M→tg' b=2:=fun b h1 h2=>by rw[t1,if_neg (by omega),if_neg (by omega),if_neg (by omega),if_neg (by omega),if_pos h1]
 have t3:∀b,M≤b→b<w3.heap.size→tg' b=3:=fun b h1 h2=>by rw[t1,if_neg (by omega),if_neg (by omega),if_neg (by omega),if_pos h1]
 have t4:∀b,w3.heap.size≤b→b<w4.heap.size→tg' b=4:=fun b h1 h2=>by rw[t1,if_neg (by omega),if_neg (by omega),if_pos h1]
 have k5:∀b,b<w5.heap.size→(w5.alloc (.cells #[.pointer (some ⟨go,0,none⟩),.pointer (some ⟨gh,0,none⟩),.int .i64 s.quota,.int .i64 s.fin,.int .u64 (s.val:Int),.slice A0 n0 d0,.slice A1 n1 d1,.slice A2 n2 d2,.slice A3 n3 d3,.slice A4 n4 d4,.slice A5 n5 d5] 91)).heap[b]? =w5.heap[b]? :=fun b hb=>qBX w5 _ b hb;have k4:∀b,b<w4.heap.size→_:=fun b hb=>(k5 b (by omega)).trans (h45.block b hb);have k3:∀b,b<w3.heap.size→_:=fun b hb=>(k4 b (by omega)).trans (h34.block b hb);refine⟨tg',css,fun b hb=> ?_,qBl rfl,by rw[t1,if_pos rfl],modL.wide (modL.keep md fun b hb=>k4 b hb.2) fun b hb=>t4 b hb.1 hb.2,(hp.keep (fun b hb _=>k3 b hb) fun b hb=>by omega).wide fun b hb=>t2 b hb.1 hb.2,(tb.keep fun b hb _=>k3 b hb).wide fun b _ hb=>t3 b hb.1 hb.2,fr.keep (fun b hb=>k5 b (ht b (by omega)).2) fun b hb=>tF b (by omega),ok⟩;have hsz:(w5.alloc (.cells #[.pointer (some ⟨go,0,none⟩),.pointer (some ⟨gh,0,none⟩),.int .i64 s.quota,.int .i64 s.fin,.int .u64 (s.val:Int),.slice A0 n0 d0,.slice A1 n1 d1,.slice A2 n2 d2,.slice A3 n3 d3,.slice A4 n4 d4,.slice A5 n5 d5] 91)).heap.size=w5.heap.size+1:=by simp
 rw[hsz];rw[t1] at hb;have hlt:b<w5.heap.size+1∧N≤b:=by
  split at hb
  · omega
  · split at hb
    · have:=ht b hb;omega
    · split at hb
      · omega
      · split at hb
        · omega
        · split at hb
          · omega
          · exact absurd rfl hb
 exact⟨⟨hlt.2,hlt.1⟩,hlt.1⟩
theorem qNg (csm css:List Value) (m:Mod) (s:Stt) (L:List (List Shape)) (w:World) (hm:modL.R (·<w.heap.size) w csm m) (hs:stL.R (·<w.heap.size) w css s) (hz:s.low) (hc:checkN m=0) (hmain:mainB m=true) (hL:LeastM m L) (ht:typedB m L s=true) (hq:0≤s.quota∧s.quota≤65536) (hu:0≤s.used∧s.used≤65536):
 Calls Tryz.prog 11 #[vAgg csm,vAgg css] w fun e w'=>∃gm go gh P v,e= .returned (.tuple #[.pointer (some ⟨gm,0,none⟩),.int .i64 0])∧Mc (fun b=>w.heap.size≤b∧b<w'.heap.size) m gm go gh P v w' s∧Below w.heap.size w w':=by
 obtain⟨A0,A1,A2,A3,A4,n0,n1,n2,n3,n4,d0,d1,d2,d3,d4,rfl⟩:=qCj hm;obtain⟨F,cf,O,co,H,ch,rfl,-,-,-,-,-,-,-,-,-,i1,i2,i3,i4⟩:=qCV hs;have HCK:Hid (∀V,Below w.heap.size w V→Calls Tryz.prog 25 #[.agg #[.slice A0 n0 d0,.slice A1 n1 d1,.slice A2 n2 d2,.slice A3 n3 d3,.slice A4 n4 d4]] V fun e w'=>∃A c,e= .returned (.tuple #[.slice A L.length c,.int .i64 0,.int .i64 0,.int .i64 0])∧Sq rowL (·<w'.heap.size) w' A L∧L.length≤c∧c≤maxLen∧Below V.heap.size V w'):=fun V hV=>by
  refine(qJT _ m V (qCA hm hV)).mono ?_;intro e w' h;obtain⟨hb,U,A,c,rfl,⟨A',c',e1,k1,k2,hR⟩,-⟩:=qI8 h hc hmain hL;simp only[List.cons.injEq,Value.slice.injEq,and_true,true_and] at e1;obtain⟨rfl,rfl⟩:=e1;refine⟨A,c,rfl,fun hp=> ?_,k1,k2,hb⟩;obtain⟨a,ea,ha,hx⟩:=hR hp;exact⟨a,ea,ha.2,fun j x hj=>by
   obtain⟨cs,q1,q2⟩:=hx j x hj;exact⟨cs,q1,rowL.wide (qJi q2) fun b hb=>hb.2⟩⟩
 have HTY:Hid (∀V A c,Below w.heap.size w V→Sq rowL (·<V.heap.size) V A L→L.length≤maxLen→Calls Tryz.prog 24 #[.agg #[.slice A0 n0 d0,.slice A1 n1 d1,.slice A2 n2 d2,.slice A3 n3 d3,.slice A4 n4 d4],.slice A L.length c,.agg #[.slice F s.fr.length cf,.slice O s.hp.length co,.slice H s.hn.length ch,.int .i64 s.quota,.int .i64 s.used,.int .i64 s.fin,.int .u64 (s.val:Int)]] V (Tells true V)):=fun V A c hV hA hl=>by
  have:=qLM _ _ m s A L.length c L V (qCA hm hV) (stL.wide (stL.keep hs fun b hb=>hV.block b hb) fun b hb=>qBN hb hV.size) rfl hA (by unfold maxLen at hl;omega) true ⟨fun _=>⟨hmain,hL.right⟩,fun _=>rfl⟩;rw[ht] at this;exact this
 have HWO:Hid (∀V,Below w.heap.size w V→Calls Tryz.prog 26 #[.agg #[.slice F s.fr.length cf,.slice O s.hp.length co,.slice H s.hn.length ch,.int .i64 s.quota,.int .i64 s.used,.int .i64 s.fin,.int .u64 (s.val:Int)]] V _):=fun V hV=>qHw _ s V (stL.wide (stL.keep hs fun b hb=>hV.block b hb) fun b hb=>qBN hb hV.size) hz hq hu;have HCO:Hid (∀V,Below w.heap.size w V→Calls Tryz.prog 27 #[.agg #[.slice A0 n0 d0,.slice A1 n1 d1,.slice A2 n2 d2,.slice A3 n3 d3,.slice A4 n4 d4]] V fun e w'=>∃E0 E1 E2 E3 E4 m0 m1 m2 m3 m4 e0 e1 e2 e3 e4,e= .returned (.agg #[.slice E0 m0 e0,.slice E1 m1 e1,.slice E2 m2 e2,.slice E3 m3 e3,.slice E4 m4 e4])∧modL.R (fun b=>V.heap.size≤b∧b<w'.heap.size) w' [.slice E0 m0 e0,.slice E1 m1 e1,.slice E2 m2 e2,.slice E3 m3 e3,.slice E4 m4 e4] m∧Below V.heap.size V w'):=fun V hV=>by
  refine(qKP _ m V (qCA hm hV) (qBo hc)).mono ?_;rintro e w' ⟨cs',rfl,hR,hb⟩;obtain⟨E0,E1,E2,E3,E4,m0,m1,m2,m3,m4,e0,e1,e2,e3,e4,rfl⟩:=qCj hR;exact⟨E0,E1,E2,E3,E4,m0,m1,m2,m3,m4,e0,e1,e2,e3,e4,rfl,hR,hb⟩
 have HCL:Hid (∀V,Below w.heap.size w V→Calls Tryz.prog 28 #[.agg #[.slice F s.fr.length cf,.slice O s.hp.length co,.slice H s.hn.length ch,.int .i64 s.quota,.int .i64 s.used,.int .i64 s.fin,.int .u64 (s.val:Int)]] V _):=fun V hV=>qGX _ s V (stL.wide (stL.keep hs fun b hb=>hV.block b hb) fun b hb=>qBN hb hV.size) hz;have HI:=qBK (And.intro i1 (And.intro i3 i4));have bm:=run_mac;have fs:=qOR
 show Calls Tryz.prog 11 #[.agg #[.slice A0 n0 d0,.slice A1 n1 d1,.slice A2 n2 d2,.slice A3 n3 d3,.slice A4 n4 d4],.agg #[.slice F s.fr.length cf,.slice O s.hp.length co,.slice H s.hn.length ch,.int .i64 s.quota,.int .i64 s.used,.int .i64 s.fin,.int .u64 (s.val:Int)]] w _
 clear hm hs hz hc hmain hL ht
 go_enter Tryz.func11,Tryz.ntmps11
 go_upto_region 1 with(fail)
 refine qBV fun W hW=> ?_;have hB:Below w.heap.size w W:=by rw[hW];exact((qBO _ _).alloc (qBL _) _).alloc (by simp) _
 have hk:Blk W w.heap.size 28 #[.slice A0 n0 d0,.slice A1 n1 d1,.slice A2 n2 d2,.slice A3 n3 d3,.slice A4 n4 d4]:=by rw[hW];exact qBc (qBl rfl)
 have hk2:Blk W (w.heap.size+1) 34 #[.slice F s.fr.length cf,.slice O s.hp.length co,.slice H s.hn.length ch,.int .i64 s.quota,.int .i64 s.used,.int .i64 s.fin,.int .u64 (s.val:Int)]:=by rw[hW];exact qBl (by simp)
 have HB:=qBK hB;have HK:Hid (∀V,Below W.heap.size W V→V.cell? ⟨w.heap.size,0,none⟩=some (.slice A0 n0 d0)∧V.cell? ⟨w.heap.size,1,none⟩=some (.slice A1 n1 d1)∧V.cell? ⟨w.heap.size,2,none⟩=some (.slice A2 n2 d2)∧V.cell? ⟨w.heap.size,3,none⟩=some (.slice A3 n3 d3)∧V.cell? ⟨w.heap.size,4,none⟩=some (.slice A4 n4 d4)∧V.cell? ⟨w.heap.size+1,0,none⟩=some (.slice F s.fr.length cf)∧V.cell? ⟨w.heap.size+1,1,none⟩=some (.slice O s.hp.length co)∧V.cell? ⟨w.heap.size+1,2,none⟩=some (.slice H s.hn.length ch)∧V.cell? ⟨w.heap.size+1,3,none⟩=some (.int .i64 s.quota)∧V.cell? ⟨w.heap.size+1,4,none⟩=some (.int .i64 s.used)∧V.cell? ⟨w.heap.size+1,5,none⟩=some (.int .i64 s.fin)∧V.cell? ⟨w.heap.size+1,6,none⟩=some (.int .u64 (s.val:Int))):=fun V hV=>by
  have q:=qBf hk hV hk.lt;have r:=qBf hk2 hV hk2.lt;exact⟨q.cell 0,q.cell 1,q.cell 2,q.cell 3,q.cell 4,r.cell 0,r.cell 1,r.cell 2,r.cell 3,r.cell 4,r.cell 5,r.cell 6⟩
 have HBB:Hid (∀V,Below W.heap.size W V→Below w.heap.size w V):=fun V hV=>hB.trans (hV.mono hB.size);have HZW:Hid (w.heap.size≤W.heap.size):=hB.size;clear hW hk hk2 hB;obtain⟨a0,a1,a2,a3,a4,-⟩:=HK.out W (qBO _ W)
 go_upto_region 6 with(first
  |(go_at_call 25
    refine(HCK.out _ HB.out).mono ?_;rintro e w1 ⟨B,cB,rfl,hR1,hl1,hl2,hb1⟩;have HR1:=qBK hR1;have HB1:=qBK hb1;have HL1:Hid (L.length≤maxLen):=qBZ hl1 hl2;obtain⟨b0,b1,b2,b3,b4,b5,b6,b7,b8,b9,b10,b11⟩:=HK.out w1 hb1;clear hR1 hb1 hl1 hl2)
  |(go_at_call 24
    refine(HTY.out _ _ cB (HBB.out _ HB1.out) HR1.out HL1.out).mono ?_;rintro e w2 ⟨rfl,hb2⟩;have HB2:Hid (Below W.heap.size W w2):=HB1.out.trans (hb2.mono HB1.out.size);clear hb2))
 obtain⟨c0,c1,c2,c3,c4,c5,c6,c7,c8,c9,c10,c11⟩:=HK.out _ HB2.out.drew
 go_region_held3 (fun V=>V.cell? ⟨w.heap.size,0,none⟩=some (.slice A0 n0 d0)∧V.cell? ⟨w.heap.size,1,none⟩=some (.slice A1 n1 d1)∧V.cell? ⟨w.heap.size,2,none⟩=some (.slice A2 n2 d2)∧V.cell? ⟨w.heap.size,3,none⟩=some (.slice A3 n3 d3)∧V.cell? ⟨w.heap.size,4,none⟩=some (.slice A4 n4 d4)∧V.cell? ⟨w.heap.size+1,0,none⟩=some (.slice F s.fr.length cf)∧V.cell? ⟨w.heap.size+1,1,none⟩=some (.slice O s.hp.length co)∧V.cell? ⟨w.heap.size+1,2,none⟩=some (.slice H s.hn.length ch)∧V.cell? ⟨w.heap.size+1,3,none⟩=some (.int .i64 s.quota)∧V.cell? ⟨w.heap.size+1,4,none⟩=some (.int .i64 s.used)∧V.cell? ⟨w.heap.size+1,5,none⟩=some (.int .i64 s.fin)∧V.cell? ⟨w.heap.size+1,6,none⟩=some (.int .u64 (s.val:Int)))
  (first
  |with_reducible exact⟨c0,c1,c2,c3,c4,c5,c6,c7,c8,c9,c10,c11⟩
  |(have hz:=HB5.out;clear hz;first|with_reducible exact HK.out _ HB5.out|with_reducible exact HK.out _ (HB5.out.alloc HB5.out.size _))
  |(have hz:=HB4.out;clear hz;with_reducible exact HK.out _ HB4.out)
  |with_reducible exact HK.out _ HB3.out)
  (first
  |(go_at_call 26
    refine(HWO.out _ (HBB.out _ HB2.out.drew)).mono ?_;rintro e w3 ⟨go,gh,M,rfl,hp3,ht3,hM3,hb3⟩;have HH3:=qBK (And.intro hp3 (And.intro ht3 hM3));have HB3:Hid (Below W.heap.size W w3):=HB2.out.drew.trans (hb3.mono HB2.out.size);clear hp3 ht3 hM3 hb3)
  |(go_at_call 27
    refine(HCO.out _ (HBB.out _ HB3.out)).mono ?_;rintro e w4 ⟨E0,E1,E2,E3,E4,m0,m1,m2,m3,m4,e0,e1,e2,e3,e4,rfl,hR4,hb4⟩;have HR4:=qBK (And.intro hR4 hb4);have HB4:Hid (Below W.heap.size W w4):=HB3.out.trans (hb4.mono HB3.out.size);clear hR4 hb4)
  |(go_at_call 28
    refine(HCL.out _ (HBB.out _ HB4.out)).mono ?_;rintro e w5 ⟨v0,v1,v2,tg,css5,rfl,hst,hfr,htg,hb5⟩;obtain⟨G0,g0,G1,g1,G2,g2,ee,-⟩:=qCV hst;simp only[List.cons.injEq,and_true] at ee;obtain⟨rfl,rfl,rfl⟩:=ee;have HF5:=qBK (And.intro hfr (And.intro htg hb5));have HB5:Hid (Below W.heap.size W w5):=HB4.out.trans (hb5.mono HB4.out.size);clear hst hfr htg hb5))
 all_goals(go_wp2_with fail)
 all_goals
  obtain⟨hp3,tb3,hM3⟩:=HH3.out;obtain⟨hR4,h34⟩:=HR4.out;obtain⟨hf5,ht5,h45⟩:=HF5.out;have hN:w.heap.size≤w2.drew.heap.size:=qBZ HZW.out HB2.out.size;have hgo:w2.drew.heap.size≤go∧go<M:=by
   obtain⟨_,_,_,_,hS,-⟩:=hp3;exact hS
  refine bodyPost_ret (v:= .tuple #[.pointer (some ⟨w5.heap.size,0,none⟩),.int .i64 0]) (by simp[results,Tryz.results11,go_sem]) rfl ⟨w5.heap.size,go,gh,_,_,rfl,(Mc.make (by omega) hp3 tb3 hM3 hR4 h34 h45 hf5 ht5 HI.out).wide fun b h1 h2=>⟨qBZ hN h2.1,h1⟩,?_⟩;exact HBB.out _ (HB5.out.alloc HB5.out.size _)
theorem run_stS (A B:Option Addr) (n c k d:Nat) (q u f v:Int) (w:World):(Instr.build 34 #[(1,.slice A n c),(2,.slice B k d),(3,.int .i64 q),(4,.int .i64 u),(5,.int .i64 f),(6,.int .u64 v)]).run Tryz.prog w= .ok (.agg #[.slice none 0 0,.slice A n c,.slice B k d,.int .i64 q,.int .i64 u,.int .i64 f,.int .u64 v]) w:=by kernel_rfl
theorem run_stZ (w:World):(Instr.build 34 #[]).run Tryz.prog w= .ok (.agg #[.slice none 0 0,.slice none 0 0,.slice none 0 0,.int .i64 0,.int .i64 0,.int .i64 0,.int .u64 0]) w:=by kernel_rfl
theorem Fr.sl {tg:Nat→Nat} {css:List (List Value)} {F:List Frm} (h:Fr tg w v css F) (hS:∀b,tg b≠0→b<w.heap.size):frsL.R (·<w.heap.size) w [v] F:=by
 refine raw_sl (L:=frL) (base:=0) h.1 h.2.1 (fun j f cs h1 h2=> ?_) fun b _ hb=>hb;obtain⟨v0,v1,rfl,a1,a2,a3,a4,a5,a6,a7⟩:=h.2.2.2 j f cs h1 h2;exact⟨v0,v1,rfl,a1,a2,wrdL.wide (a5.words a3) fun b hb=>hS b (by omega),wrdL.wide ((Part.of_own a6).words a4) fun b hb=>hb.2⟩
theorem Mc.sl (h:Mc S m gm go gh P v w s):frsL.R (·<w.heap.size) w [v] s.fr∧I64 s.quota∧I64 s.fin∧s.val<B64:=by
 obtain⟨tg,css,q⟩:=h;exact⟨q.fr.sl fun b hb=>(q.own b hb).2,q.ok⟩
theorem qJe (w:World) (h:Mc S m gm go gh P v w s) (hz:s.low) (hu:I64 s.used):
 Calls Tryz.prog 38 #[.pointer (some ⟨gm,0,none⟩)] w fun e w'=>∃A n c B k d,e= .returned (.agg #[.slice none 0 0,.slice A n c,.slice B k d,.int .i64 s.quota,.int .i64 s.used,.int .i64 s.fin,.int .u64 (s.val:Int)])∧obsL.R (·<w'.heap.size) w' [.slice A n c] s.hp∧hnsL.R (·<w'.heap.size) w' [.slice B k d] s.hn∧Below w.heap.size w w':=by
 obtain⟨z1,z2,z3,z4,z5⟩:=hz;have HM:=qBK h;have HCL:Hid (∀V,Below w.heap.size w V→V.cell? ⟨gm,0,none⟩=some (.pointer (some ⟨go,0,none⟩))∧V.cell? ⟨gm,1,none⟩=some (.pointer (some ⟨gh,0,none⟩))∧V.cell? ⟨gm,2,none⟩=some (.int .i64 s.quota)∧V.cell? ⟨gm,3,none⟩=some (.int .i64 s.fin)∧V.cell? ⟨gm,4,none⟩=some (.int .u64 (s.val:Int))):=fun V hV=>by
  obtain⟨-,-,-,c0,c1,c2,c3,c4,-⟩:=(h.below hV).cells;exact⟨c0,c1,c2,c3,c4⟩
 have CO:Hid (∀V,Below w.heap.size w V→Calls Tryz.prog 74 #[.pointer (some ⟨go,0,none⟩)] V fun e w'=>∃A n c,e= .returned (.slice A n c)∧obsL.R (fun b=>V.heap.size≤b∧b<w'.heap.size) w' [.slice A n c] s.hp∧Below V.heap.size V w'):=fun V hV=>by
  obtain⟨S2,h1,h2,-⟩:=(h.below hV).heap;refine(qNN go V h1 (by omega) z5 fun b hb=>(h2 b hb).2).mono ?_;rintro e w' ⟨v1,css,tag,rfl,hr,hb⟩;obtain⟨A,c,e,-⟩:=hr.shape;subst e;exact⟨_,_,_,rfl,hr.sl,hb⟩
 have CH:Hid (∀V,Below w.heap.size w V→Calls Tryz.prog 75 #[.pointer (some ⟨gh,0,none⟩)] V fun e w'=>∃A n c,e= .returned (.slice A n c)∧hnsL.R (fun b=>V.heap.size≤b∧b<w'.heap.size) w' [.slice A n c] s.hn∧Below V.heap.size V w'):=fun V hV=>by
  obtain⟨S2,h1,-,-⟩:=(h.below hV).table;refine(qLN gh V h1 (by omega)).mono ?_;rintro e w' ⟨v1,rfl,hr,hb⟩;obtain⟨A,c,e,k1,k2,hq⟩:=qHb hr h1.ok;subst e;exact⟨_,_,_,rfl,⟨A,c,rfl,k1,k2,hq.wide fun b hb=>hb.2⟩,hb⟩
 have CU:Hid (∀V,Below w.heap.size w V→Calls Tryz.prog 76 #[.pointer (some ⟨go,0,none⟩)] V fun e w'=>e= .returned (.int .i64 s.used)∧V=w'):=fun V hV=>by
  obtain⟨S2,h1,-,-⟩:=(h.below hV).heap;exact qHz go V h1
 have bs:=run_stS;clear h z1 z2 z3 z4 z5
 go_enter Tryz.func38,Tryz.ntmps38
 go_upto_region 1 with(fail)
 refine qBV fun W hW=> ?_;have HB:Hid (Below w.heap.size w W):=by show Below _ _ _;rw[hW];exact(qBO _ _).alloc (qBL _) _
 have hk:Blk W w.heap.size 34 #[.slice none 0 0,.slice none 0 0,.slice none 0 0,.int .i64 0,.int .i64 0,.int .i64 0,.int .u64 0]:=by rw[hW];exact qBl rfl
 have hsW:W.heap.size=w.heap.size+1:=by rw[hW];simp
 have HK:Hid (∀V,Below W.heap.size W V→Blk V w.heap.size 34 #[.slice none 0 0,.slice none 0 0,.slice none 0 0,.int .i64 0,.int .i64 0,.int .i64 0,.int .u64 0]):=fun V hV=>qBf hk hV (by omega);have HBB:Hid (∀V,Below W.heap.size W V→Below w.heap.size w V):=fun V hV=>HB.out.trans (hV.mono (by omega));clear hW hk;obtain⟨d0,d1,d2,d3,d4⟩:=HCL.out _ HB.out.drew;refine qA2 ?_;intro HSN
 go_region_held3 (fun V=>V.cell? ⟨gm,0,none⟩=some (.pointer (some ⟨go,0,none⟩))∧V.cell? ⟨gm,1,none⟩=some (.pointer (some ⟨gh,0,none⟩))∧V.cell? ⟨gm,2,none⟩=some (.int .i64 s.quota)∧V.cell? ⟨gm,3,none⟩=some (.int .i64 s.fin)∧V.cell? ⟨gm,4,none⟩=some (.int .u64 (s.val:Int)))
  (first
  |with_reducible exact⟨d0,d1,d2,d3,d4⟩
  |(have hz:=HB2.out;clear hz;first|with_reducible exact HCL.out _ HB2.out|with_reducible exact HCL.out _ (HSN.out _ _ _ (HSN.out _ _ _ (HSN.out _ _ _ (HSN.out _ _ _ (HSN.out _ _ _ (HSN.out _ _ _ (HSN.out _ _ _ HB2.out))))))))
  |with_reducible exact HCL.out _ HB1.out)
  (first
  |(go_at_call 74
    refine(CO.out _ HB.out.drew).mono ?_;rintro e w1 ⟨A1,n1,c1,rfl,ho1,hb1⟩;have HO1:=qBK ho1;have HBL1:Hid (Below W.heap.size W w1):=(qBO _ W).drew.trans hb1;have HB1:=qBK (HBB.out _ HBL1.out);clear ho1 hb1)
  |(go_at_call 75
    refine(CH.out _ HB1.out).mono ?_;rintro e w2 ⟨A2,n2,c2,rfl,ho2,hb2⟩;have HO2:=qBK ho2;have HBL2:Hid (Below W.heap.size W w2):=HBL1.out.trans (hb2.mono HBL1.out.size);have HB2:=qBK (HBB.out _ HBL2.out);have HO12:Hid (obsL.R (fun b=>W.heap.size≤b∧b<w2.heap.size) w2 [.slice A1 n1 c1] s.hp):=obsL.wide (obsL.keep HO1.out fun b hb=>hb2.block b hb.2) fun b hb=>⟨hb.1,qBN hb.2 hb2.size⟩;have HZ1:Hid (W.heap.size≤w1.heap.size):=HBL1.out.size;have hkk:=HK.out _ HBL2.out;refine qAe ?_;intro x0 x1 x2 x3 x4 x5 x6 f0 f1 f2 f3 f4 f5 f6;clear ho2 hb2 hkk)
  |(go_at_call 76
    refine(CU.out _ HB2.out).mono ?_;rintro e w3 ⟨rfl,rfl⟩))
 all_goals(go_wp2_with fail)
 all_goals
  refine bodyPost_ret (v:= .agg #[.slice none 0 0,.slice A1 n1 c1,.slice A2 n2 c2,.int .i64 s.quota,.int .i64 s.used,.int .i64 s.fin,.int .u64 (s.val:Int)]) (by simp[results,Tryz.results38,go_sem,x0,x1,x2,x3,x4,x5,x6]) rfl ⟨A1,n1,c1,A2,n2,c2,rfl,?_,?_,?_⟩
  · refine obsL.wide (obsL.keep HO12.out fun b hb=> ?_) fun b hb=>by simp[World.setCell];exact hb.2
    have hne:b≠w.heap.size:=by omega
    exact qi
  · refine hnsL.wide (hnsL.keep HO2.out fun b hb=> ?_) fun b hb=>by simp[World.setCell];exact hb.2
    have hne:b≠w.heap.size:=by have:=HZ1.out;omega
    exact qi
  · have hb:=HB2.out
    repeat(first|with_reducible exact hb|with_reducible refine HSN.out _ _ _ ?_)
theorem mstate_nil (w:World):Calls Tryz.prog 16 #[.pointer none] w fun e w'=>e= .returned (.agg #[.slice none 0 0,.slice none 0 0,.slice none 0 0,.int .i64 0,.int .i64 0,.int .i64 0,.int .u64 0])∧Below w.heap.size w w':=by
 have bs:=run_stZ
 go_enter Tryz.func16,Tryz.ntmps16
 go_wp2_with fail
 refine bodyPost_ret (v:= .agg #[.slice none 0 0,.slice none 0 0,.slice none 0 0,.int .i64 0,.int .i64 0,.int .i64 0,.int .u64 0]) (by simp[results,Tryz.results16,go_sem]) rfl ⟨rfl,?_⟩;exact(qBO _ _).alloc (qBL _) _
theorem qJr (w:World) (h:Mc S m gm go gh P v w s) (hz:s.low) (hu:I64 s.used):
 Calls Tryz.prog 16 #[.pointer (some ⟨gm,0,none⟩)] w fun e w'=>∃cs,e= .returned (vAgg cs)∧stL.R (fun b=>w.heap.size≤b∧b<w'.heap.size) w' cs s∧Below w.heap.size w w':=by
 have HM:=qBK h;have HZ:=qBK hz;obtain⟨A,c,rfl,hc1,hc2⟩:=h.cells.2.2.2.2.2.2.2.2.2.1;have HC10:Hid (∀V,Below w.heap.size w V→V.cell? ⟨gm,10,none⟩=some (.slice A s.fr.length c)):=fun V hV=>(h.below hV).cells.2.2.2.2.2.2.2.2.1;have HSH:Hid (∀V,Below w.heap.size w V→Calls Tryz.prog 38 #[.pointer (some ⟨gm,0,none⟩)] V fun e w'=>∃A n c B k d,e= .returned (.agg #[.slice none 0 0,.slice A n c,.slice B k d,.int .i64 s.quota,.int .i64 s.used,.int .i64 s.fin,.int .u64 (s.val:Int)])∧obsL.R (·<w'.heap.size) w' [.slice A n c] s.hp∧hnsL.R (·<w'.heap.size) w' [.slice B k d] s.hn∧Below V.heap.size V w'):=fun V hV=>qJe V (h.below hV) hz hu;have HU:=qBK hu;clear h hz hu
 go_enter Tryz.func16,Tryz.ntmps16
 go_upto_region 5 with(first
  |(go_at_call 38
    refine(HSH.out _ ((qBO _ _).alloc (qBL _) _)).mono ?_;rintro e w1 ⟨A1,n1,c1,A2,n2,c2,rfl,ho,hh,hb⟩;have hb1:Below w.heap.size w w1:=((qBO _ _).alloc (qBL _) _).trans (hb.mono (by simp));have y10:=fun ob=>HC10.out (w1.alloc ob) (hb1.alloc hb1.size ob);have HO:=qBK ho;have HH:=qBK hh;have HB1:=qBK hb1;have HK1:Hid (Blk w1 w.heap.size 34 #[.slice none 0 0,.slice none 0 0,.slice none 0 0,.int .i64 0,.int .i64 0,.int .i64 0,.int .u64 0]):=qBf (qBl (v:=w) rfl) hb (by simp);clear ho hh hb hb1))
 refine qBV fun W hW=> ?_;have hBW:Below w1.heap.size w1 W:=by rw[hW];exact(qBO _ _).alloc (qBL _) _
 have hk:Blk W w1.heap.size 34 #[.slice A s.fr.length c,.slice A1 n1 c1,.slice A2 n2 c2,.int .i64 s.quota,.int .i64 s.used,.int .i64 s.fin,.int .u64 (s.val:Int)]:=by rw[hW];exact qBl rfl
 have hs1:=HB1.out.size;have hsW:=hBW.size;have HBW:Hid (Below w.heap.size w W):=HB1.out.trans (hBW.mono hs1);have HST:Hid (stL.R (·<W.heap.size) W [.slice A s.fr.length c,.slice A1 n1 c1,.slice A2 n2 c2,.int .i64 s.quota,.int .i64 s.used,.int .i64 s.fin,.int .u64 (s.val:Int)] s):=by
  obtain⟨hf,i1,i2,i3⟩:=(HM.out.below HBW.out).sl;exact⟨_,_,_,rfl,hf,obsL.wide (obsL.keep HO.out fun b hb=>hBW.block b hb) fun b hb=>qBN hb hsW,hnsL.wide (hnsL.keep HH.out fun b hb=>hBW.block b hb) fun b hb=>qBN hb hsW,i1,HU.out,i2,i3⟩
 have y0:=hk.cell 0;have y1:=hk.cell 1;have y2:=hk.cell 2;have y3:=hk.cell 3;have y4:=hk.cell 4;have y5:=hk.cell 5;have y6:=hk.cell 6;have hlt:=hk.lt;have HKN:Hid (Blk W w.heap.size 34 #[.slice none 0 0,.slice none 0 0,.slice none 0 0,.int .i64 0,.int .i64 0,.int .i64 0,.int .u64 0]):=qBf HK1.out hBW HK1.out.lt;clear hW hBW hk y10
 go_wp2_with (first
  |(go_at_call 28
    refine(qGX _ s W HST.out HZ.out).mono ?_;rintro e w2 ⟨v0,v1,v2,tg,css,rfl,hst,-,-,hb2⟩;obtain⟨B0,b0,B1,b1,B2,b2,ee,-⟩:=qCV hst;simp only[List.cons.injEq,and_true] at ee;obtain⟨rfl,rfl,rfl⟩:=ee;have HR2:=qBK hst;have HB2:=qBK hb2;have hkk:=qBf HKN.out hb2 HKN.out.lt;refine qAe ?_;intro x0 x1 x2 x3 x4 x5 x6 f0 f1 f2 f3 f4 f5 f6;clear hst hb2 hkk))
 refine bodyPost_ret (v:= .agg #[.slice B0 s.fr.length b0,.slice B1 s.hp.length b1,.slice B2 s.hn.length b2,.int .i64 s.quota,.int .i64 s.used,.int .i64 s.fin,.int .u64 (s.val:Int)]) (by simp[results,Tryz.results16,go_sem,x0,x1,x2,x3,x4,x5,x6]) rfl ⟨[.slice B0 s.fr.length b0,.slice B1 s.hp.length b1,.slice B2 s.hn.length b2,.int .i64 s.quota,.int .i64 s.used,.int .i64 s.fin,.int .u64 (s.val:Int)],rfl,?_,?_⟩
 · refine stL.wide (stL.keep HR2.out fun b hb=> ?_) fun b hb=>⟨qBZ (qBZ hs1 hsW) hb.1,by simp[World.setCell];exact hb.2.1⟩
   have hne:b≠w.heap.size:=by have h0:W.heap.size≤b:=hb.1;omega
   exact qi
 · have hb:=HBW.out.trans (HB2.out.mono (by omega))
   have HSN:∀V i u,Below w.heap.size w V→Below w.heap.size w (V.setCell ⟨w.heap.size,i,none⟩ u):=fun V i u hV=>hV.setCell (show w.heap.size≤w.heap.size from qBL _) u
   repeat(first|with_reducible exact hb|with_reducible refine HSN _ _ _ ?_)
theorem qEo (h:typedB m L s=true):Bdy m s∧0≤s.fin∧s.fin≤7∧(s.fin≠0→s.fr=[]):=by
 have h':=h;simp only[typedB,Bool.and_eq_true] at h';obtain⟨⟨⟨h1,h2⟩,h3⟩,h4⟩:=h';have hc:=h1;simp only[countB,decide_eq_true_eq] at hc;refine⟨qOh h1 h2 h3,hc.2.2.2.2.1,hc.2.2.2.2.2.1,fun h0=> ?_⟩;unfold endB at h4;rw[if_pos (by simpa using h0)] at h4;have:=of_decide_eq_true h4;exact qBY this.1
theorem qLh (hc:checkN m=0) (h:Bdy m s):∀o∈s.hp,o.small:=(bdy_low (s:={s with fin:=0}) hc (h.of rfl rfl rfl rfl) rfl).z
theorem qGt (hc:checkN m=0) (hL:RightM m L) {j p:Nat} {fn:Fn} {l:List Shape} {u v:List Typ} {f:Frm} (h1:m.funcs[j]? =some fn) (h2:L[j]? =some l) (h3:l[p]? =some (true,u)) (h4:allB s f.stk v=true) (h5:v.length≤u.length) (h6:allB s f.locs (fn.args++fn.locs)=true):f.small:=by
 have h8:=(hL.at_ j fn l h1 h2).2.1 _ (qBQ h3);obtain⟨f1,f2,-,-⟩:=qCl hc (qBQ h1);have e1:=qEk h4;have e2:=qEk h6;rw[List.length_append] at e2;simp only at h8;exact⟨by omega,by omega⟩
theorem qEz {m:Mod} {L:List (List Shape)} {s:Stt} (hc:checkN m=0) (hL:RightM m L):∀{gf:Int} {r:List Frm},waits m L s gf r→∀f∈r,f.small
 |_,[],_,f,hf=>by simp at hf
 |_,g::r,q,f,hf=>by
  rcases List.mem_cons.1 hf with e|e
  · subst e
    obtain⟨j,p,fn,l,u,u',i,h,-,-,a3,a4,a5,-,-,-,-,-,a11,a12⟩:=q.1;exact qGt hc hL a3 a4 a5 a11 (by rw[List.length_take];omega) a12
  · exact qEz hc hL q.2 f e
theorem qLL (hc:checkN m=0) (hL:RightM m L) (h:typedB m L s=true) (hn:s.hp.length≤1000):s.low:=by
 obtain⟨hb,-,-,h0⟩:=qEo h;have hz:=qLh hc hb
 by_cases e:s.fin=0
 · obtain⟨f,rest,hg⟩:=Going.of hL h e
   obtain⟨j,p,fn,l,u,a1,a2,a3,a4,a5,a6,a7⟩:=hg.top;refine⟨by have:=hg.len;omega,hn,by have:=hb.nh;omega,fun x hx=> ?_,hz⟩;rw[hg.fr] at hx;rcases List.mem_append.1 hx with q|q
   · exact qEz hc hL hg.wait x (List.mem_reverse.1 q)
   · have:x=f:=by simpa using q
     subst this;exact qGt hc hL a3 a4 a5 a6 (qBL _) a7
 · rw[Stt.low,h0 e]
   exact⟨by simp,hn,by have:=hb.nh;omega,fun x hx=>by simp at hx,hz⟩
def On (N:Nat) (m:Mod) (L:List (List Shape)) (gm gh:Nat) (P:Pr) (w:World) (s:Stt) (k:Nat):Prop:=
 (∃S go v,Mc S m gm go gh P v w s∧∀b,S b→N≤b∧b<w.heap.size)∧typedB m L s=true∧s.hp.length≤k
theorem On.below {w':World} (h:On N m L gm gh P w s k) (hb:Below w.heap.size w w'):On N m L gm gh P w' s k:=by
 obtain⟨⟨S,go,v,h1,h2⟩,h3⟩:=h;exact⟨⟨S,go,v,h1.below hb,fun b hb'=>⟨(h2 b hb').1,qBN (h2 b hb').2 hb.size⟩⟩,h3⟩
theorem On.size (h:On N m L gm gh P w s k):N≤w.heap.size:=by
 obtain⟨⟨S,go,v,h1,h2⟩,-⟩:=h;have:=h2 gm h1.cells.2.1
 omega
theorem On.more {M:Nat} (h:On N m L gm gh P w s k) (hk:k≤M):On N m L gm gh P w s M:=⟨h.1,h.2.1,qBZ h.2.2 hk⟩
theorem on_load (csm css:List Value) (m:Mod) (s:Stt) (L:List (List Shape)) (w:World) (hm:modL.R (·<w.heap.size) w csm m) (hs:stL.R (·<w.heap.size) w css s) (hz:s.low) (hc:checkN m=0) (hmain:mainB m=true) (hL:LeastM m L) (ht:typedB m L s=true):
 Calls Tryz.prog 11 #[vAgg csm,vAgg css] w fun e w'=>∃gm gh P,e= .returned (.tuple #[.pointer (some ⟨gm,0,none⟩),.int .i64 0])∧On w.heap.size m L gm gh P w' s s.hp.length∧Below w.heap.size w w':=by
 obtain⟨hb,-⟩:=qEo ht;refine(qNg csm css m s L w hm hs hz hc hmain hL ht ⟨hb.q0,hb.q1⟩ ⟨hb.u0,by have:=hb.u1;have:=hb.q1;omega⟩).mono ?_;rintro e w' ⟨gm,go,gh,P,v,rfl,hmc,hbl⟩;exact⟨gm,gh,P,rfl,⟨⟨_,go,v,hmc,fun b hb=>hb⟩,ht,qBL _⟩,hbl⟩
def nextS (m:Mod) (s:Stt) (ans:Nat):Stt×List Evt:=if s.fin=0 then stepS m s ans else (s,[])
theorem qNL (w:World) (h:On N m L gm gh P w s k) (hc:checkN m=0) (hL:RightM m L) (hk:k≤1000):
 Calls Tryz.prog 16 #[.pointer (some ⟨gm,0,none⟩)] w fun e w'=>∃cs,e= .returned (vAgg cs)∧stL.R (fun b=>w.heap.size≤b∧b<w'.heap.size) w' cs s∧Below w.heap.size w w':=by
 obtain⟨⟨S,go,v,h1,h2⟩,h3,h4⟩:=h;obtain⟨hb,-⟩:=qEo h3;exact qJr w h1 (qLL hc hL h3 (by omega)) ⟨by have:=hb.u0;omega,by have:=hb.u1;have:=hb.q1;omega⟩
theorem on_state_to (hc:checkN m=0) (hL:RightM m L) (hk:k≤1000) (w:World) (h:On N m L gm gh P w s k):
 Calls Tryz.prog 16 #[.pointer (some ⟨gm,0,none⟩)] w fun e w'=>∃F cf O co H ch,e= .returned (.agg #[.slice F s.fr.length cf,.slice O s.hp.length co,.slice H s.hn.length ch,.int .i64 s.quota,.int .i64 s.used,.int .i64 s.fin,.int .u64 (s.val:Int)])∧stL.R (fun b=>w.heap.size≤b∧b<w'.heap.size) w' [.slice F s.fr.length cf,.slice O s.hp.length co,.slice H s.hn.length ch,.int .i64 s.quota,.int .i64 s.used,.int .i64 s.fin,.int .u64 (s.val:Int)] s∧Below w.heap.size w w':=by
 refine(qNL w h hc hL hk).mono ?_;rintro e w' ⟨cs,rfl,hs,hb⟩;obtain⟨F,cf,O,co,H,ch,rfl,-⟩:=qCV hs;exact⟨F,cf,O,co,H,ch,rfl,hs,hb⟩
end Go.Proofs.YtgdbhanhmenmfaaGreat
