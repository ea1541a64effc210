/-
Rsm Rlc
-/
import Derived.Test.YtconajaecpgjgaaGreatT01
import Derived.Test.YtconajaecpgjgaaGreatT06
import Derived.Test.YtconajaecpgjgaaGreatT08
import Derived.Test.YtconajaecpgjgaaGreatT16
import Derived.BigQuiet
import Derived.Deep.DeepCutAuto
import Derived.Deep.RegionHeld3
set_option linter.unusedSimpArgs false
set_option linter.unusedVariables false
set_option maxRecDepth 100000
set_option maxHeartbeats 4000000
namespace Go.Proofs.YtconajaecpgjgaaGreat
open Go.RowKit
theorem jl {P:Prop} (h:P:=by
 go_wp2_with fail
 exact bodyPost_ret (v:= .agg #[.int .i64 8,.int .i64 0]) (by simp[results,Tryz.results88,go_sem,hr0,hr1]) rfl ⟨by rw[HT.out],HFin.out _ _⟩):P:=h
theorem qAE {P:Prop} (h:P:=by
 clear hx r2 r3
 go_wp2_with fail
 go_quiet (fail)
 go_wp2_with fail
 exact⟨⟨k+1,_,_,by omega,rfl,by simp,rfl⟩,by simp[intOf];omega⟩):P:=h
theorem qHZ {S:Nat→Prop} {w:World} {A:Option Addr} {fs:List Ob} (h:Sq obL S w A fs) {k:Nat} {f:Ob} (hk:fs[k]? =some f):
 ∃a P0 l0 c0 P1 l1 c1,A=some a∧w.cell? ⟨(a.add (k*4)).block,(a.add (k*4)).off+2,none⟩=some (.slice P0 l0 c0)∧w.cell? ⟨(a.add (k*4)).block,(a.add (k*4)).off+3,none⟩=some (.slice P1 l1 c1):=by
 obtain⟨a,cs,e,hs,hc,_,_,rfl,-,-,⟨P0,c0,e0,-⟩,⟨P1,c1,e1,-⟩⟩:=h.at hk
 simp only[List.cons.injEq,and_true] at e0 e1
 subst e0 e1
 have k2:=hc 2 _ rfl
 have k3:=hc 3 _ rfl
 rw[show k*obL.k+2=k*4+2 from rfl,qAl a (k*4) 2 (by omega)] at k2
 rw[show k*obL.k+3=k*4+3 from rfl,qAl a (k*4) 3 (by omega)] at k3
 exact⟨a,P0,_,c0,P1,_,c1,e,k2,k3⟩
theorem qHp {S:Nat→Prop} {w:World} {A:Option Addr} {fs:List Frm} (h:Sq frL S w A fs) {k:Nat} {f:Frm} (hk:fs[k]? =some f):
 ∃a P0 l0 c0 P1 l1 c1,A=some a∧w.cell? ⟨(a.add (k*4)).block,(a.add (k*4)).off+2,none⟩=some (.slice P0 l0 c0)∧w.cell? ⟨(a.add (k*4)).block,(a.add (k*4)).off+3,none⟩=some (.slice P1 l1 c1):=by
 obtain⟨a,cs,e,hs,hc,hR⟩:=h.at hk
 obtain⟨P0,c0,P1,c1,rfl,-⟩:=qBq hR
 have k2:=hc 2 _ rfl
 have k3:=hc 3 _ rfl
 rw[show k*frL.k+2=k*4+2 from rfl,qAl a (k*4) 2 (by omega)] at k2
 rw[show k*frL.k+3=k*4+3 from rfl,qAl a (k*4) 3 (by omega)] at k3
 exact⟨a,P0,_,c0,P1,_,c1,e,k2,k3⟩
def IsB (e:Ending):Prop:=∃b:Bool,e= .returned (.bool b)
theorem small_any (css:List Value) (s:Stt) (w:World) (hs:stL.R (·<w.heap.size) w css s) (b0:s.fr.length≤9223372036854775807) (b1:s.hp.length≤9223372036854775807):
 Calls Tryz.prog 14 #[vAgg css] w fun e w'=>IsB e∧Below w.heap.size w w':=by
 obtain⟨F,cf,O,co,H,ch,rfl,-,-,-,-,-,-,sF,sO,-⟩:=qBh hs
 obtain⟨nf,hnf⟩:∃x,s.fr.length=x:=⟨_,rfl⟩
 obtain⟨no,hno⟩:∃x,s.hp.length=x:=⟨_,rfl⟩
 obtain⟨nh,hnh⟩:∃x,s.hn.length=x:=⟨_,rfl⟩
 have HNF:=qAZ hnf
 have HNO:=qAZ hno
 have HSF:=qAZ sF
 have HSO:=qAZ sO
 rw[hnf,hno,hnh]
 rw[hnf] at b0
 rw[hno] at b1
 simp only[vAgg]
 show Calls Tryz.prog 14 #[.agg #[.slice F nf cf,.slice O no co,.slice H nh ch,.int .i64 s.quota,.int .i64 s.used,.int .i64 s.fin,.int .u64 (s.val:Int)]] w _
 clear hs hnf hno hnh sF sO
 go_enter Tryz.func14,Tryz.ntmps14
 go_upto_region 1 with(fail)
 refine qAp fun W hW=> ?_
 have hbw:Below w.heap.size w W:=by rw[hW];exact(qAe _ _).alloc (qAf _) _
 have hks:Blk W w.heap.size 36 #[.slice F nf cf,.slice O no co,.slice H nh ch,.int .i64 s.quota,.int .i64 s.used,.int .i64 s.fin,.int .u64 (s.val:Int)]:=by rw[hW];exact qAm rfl
 have HBW:=qAZ hbw
 have hW0:=hbw.size
 have y0:W.cell? ⟨w.heap.size,0,none⟩=some (.slice F nf cf):=hks.cell 0
 have y1:W.cell? ⟨w.heap.size,1,none⟩=some (.slice O no co):=hks.cell 1
 have y2:W.cell? ⟨w.heap.size,2,none⟩=some (.slice H nh ch):=hks.cell 2
 clear hW hbw hks
 go_cut [3] (fun s3 wx=>∃z:Int,s3= .int .i64 z∧wx=W)
 case first=>
  go_wp2_with fail
  go_meet
  exact⟨_,rfl,rfl⟩
 case rest=>
  obtain⟨z,rfl,ew⟩:=hcut
  have ew:=ew.symm
  subst ew
  by_cases hz:300<z
  · go_wp2_with fail
    go_ret
    exact⟨⟨_,rfl⟩,HBW.out⟩
  · go_wp2_with fail
    go_loopw [3,4] (fun s3 i wr=>∃(k q:Nat) (z:Int),k≤no∧s3= .int .i64 z∧i= .int .i64 (k:Nat)∧wr=W.drewN q) (fun _ i _=>no-(intOf i).toNat)
    case atStart=>exact⟨0,0,z,qAs _,rfl,rfl,rfl⟩
    case round=>
     obtain⟨k,q,z,hk,rfl,rfl,rfl⟩:=hrel
     by_cases hlt:k<no
     · obtain⟨x,hx⟩:∃x,s.hp[k]? =some x:=⟨s.hp[k]'(by rw[HNO.out];exact hlt),qAa _⟩
       obtain⟨a,P0,l0,c0,P1,l1,c1,rfl,r2,r3⟩:=qHZ HSO.out hx
       have z2:=(HBW.out.cell (qAn w _ r2)).trans r2
       have z3:=(HBW.out.cell (qAn w _ r3)).trans r3
       have k0:(0:Int)≤(k:Int):=by omega
       have k1:(k:Int)<(no:Int):=by omega
       exact qAE
     · obtain rfl:k=no:=by omega
       clear hlt
       go_wp2_with fail
       go_loopw [3,5] (fun s3 i wr=>∃(k q:Nat) (z:Int),k≤nf∧s3= .int .i64 z∧i= .int .i64 (k:Nat)∧wr=W.drewN q) (fun _ i _=>nf-(intOf i).toNat)
       case atStart=>exact⟨0,q,z,qAs _,rfl,rfl,rfl⟩
       case round=>
        obtain⟨k,q,z,hk,rfl,rfl,rfl⟩:=hrel
        by_cases hlt:k<nf
        · obtain⟨x,hx⟩:∃x,s.fr[k]? =some x:=⟨s.fr[k]'jx,qAa _⟩
          obtain⟨a,P0,l0,c0,P1,l1,c1,rfl,r2,r3⟩:=qHp HSF.out hx
          have z2:=(HBW.out.cell (qAn w _ r2)).trans r2
          have z3:=(HBW.out.cell (qAn w _ r3)).trans r3
          have k0:(0:Int)≤(k:Int):=by omega
          have k1:(k:Int)<(nf:Int):=by omega
          exact qAE
        · obtain rfl:k=nf:=by omega
          go_wp2_with fail
          go_ret
          exact⟨⟨_,rfl⟩,HBW.out.trans ((qA7 _ _).mono hW0)⟩
theorem qIw {f:Fn} {n:Int} {j:Nat} {t:Typ} (hn:n=(j:Int)) (h:(f.args++f.locs)[j]? =some t):locB f n=t:=by
 subst hn
 simp only[locB,Int.toNat_natCast,h]
 rw[if_neg (by omega)]
 rfl
def C2 (b:Nat) (x y:Value) (w:World):Prop:=w.cell? ⟨b,0,none⟩=some x∧w.cell? ⟨b,3,none⟩=some y
theorem qD3 (A0 A1 A2:Option Addr) (u0 u1 u2 c0 c1 c2:Nat) (r1 r2:Int) (f:Fn) (n:Int) (w:World) (h0:f.args.length=u0) (h1:f.locs.length=u1) (s0:Sq typL (·<w.heap.size) w A0 f.args) (s1:Sq typL (·<w.heap.size) w A1 f.locs)
 (b0:u0+u1≤1000000) (hn:I64 n):Calls Tryz.prog 88 #[.agg #[.slice A0 u0 c0,.int .i64 r1,.int .i64 r2,.slice A1 u1 c1,.slice A2 u2 c2],.int .i64 n] w (TypIs (locB f n) w):=by
 obtain⟨hn1,hn2⟩:=hn
 have S0:=qAZ s0
 have S1:=qAZ s1
 have L0:=qAZ h0
 have L1:=qAZ h1
 have HA:=qAZ (s0.a64.app s1.a64)
 clear s0 s1 h0 h1
 go_enter Tryz.func88,Tryz.ntmps88
 go_wp2_with fail
 refine qAp fun W hW=> ?_
 have HB:Hid (Below w.heap.size w W):=by show Below _ _ _;rw[hW];exact(qAj _ _).alloc (by simp) _
 have hz:w.heap.size+2≤W.heap.size:=by rw[hW];simp
 have HC:Hid (W.cell? ⟨w.heap.size,0,none⟩=some (.slice A0 u0 c0)∧W.cell? ⟨w.heap.size,3,none⟩=some (.slice A1 u1 c1)):=by show _∧_;rw[hW];simp[go_sem]
 have HR:Hid (Blk W (w.heap.size+1) 58 #[.int .i64 0,.int .i64 0]):=by show Blk _ _ _ _;rw[hW];exact qAm (by simp)
 clear hW
 have HCb:Hid (∀w',Below W.heap.size W w'→w'.cell? ⟨w.heap.size,0,none⟩=some (.slice A0 u0 c0)∧w'.cell? ⟨w.heap.size,3,none⟩=some (.slice A1 u1 c1)):=fun w' hb=>⟨(hb.cell (p:=⟨w.heap.size,0,none⟩) zX).trans HC.out.1,(hb.cell (p:=⟨w.heap.size,3,none⟩) zX).trans HC.out.2⟩
 have HOE:Hid ((W.alloc (.cells #[] 58)).drew.ownsRow W.heap.size 58 2 (.slice (some ⟨W.heap.size,0,none⟩) 0 0) 0 (T2 [])):=qB2 W
 go_region_held3 (fun w'=>w'.cell? ⟨w.heap.size,0,none⟩=some (.slice A0 u0 c0)∧w'.cell? ⟨w.heap.size,3,none⟩=some (.slice A1 u1 c1))
  (first|exact SS2.out|exact SS1.out|exact HC.out|exact HCb.out _ (qAj W _).drew|exact HCb.out _ (qAj W _))
  (first
  |(with_reducible refine qBY (.tmp 6) (.tmp 8) 56 ?_
    refine qBs _ rfl (.tmp 6) (.tmp 8) rfl W.heap.size (.slice (some ⟨W.heap.size,0,none⟩) 0 0) 0 [] rfl HOE.out A0 u0 c0 f.args rfl L0.out _ ((S0.out.below HB.out (qAf _)).below (qAj W _).drew (by omega)) (by omega) (by simp) ?_
    intro v1 w1 hown1 hg1 ha1
    have HO1:=qAZ hown1
    have HB1:=qAZ ((qAj W _).drew.grown hg1 (by simp) (fun i hi=>(HOE.out.lt i hi).1))
    have SS1:=qAZ (HCb.out _ HB1.out)
    have hs1:=HB1.out.size
    clear hown1 hg1 ha1)
  |(with_reducible refine qBY (.tmp 9) (.tmp 11) 56 ?_
    refine qBs _ rfl (.tmp 9) (.tmp 11) rfl W.heap.size v1 (0+u0) ([]++f.args) rfl HO1.out A1 u1 c1 f.locs rfl L1.out _ ((S1.out.below HB.out (qAf _)).below HB1.out (by omega)) (by omega) hs1 ?_
    intro v2 w2 hown2 hg2 ha2
    have HO2:=qAZ hown2
    have HB2:=qAZ (HB1.out.grown hg2 hs1 (fun i hi=>(HO1.out.lt i hi).1))
    have SS2:=qAZ (HCb.out _ HB2.out)
    have hs2:=HB2.out.size
    clear hown2 hg2 ha2))
 obtain⟨A,c,rfl,hl,hlc,hcm,hsq⟩:=qC7 HO2.out (by simpa using HA.out)
 rw[List.nil_append] at hsq
 have HS:=qAZ hsq
 have HRr:Hid (Blk w2 (w.heap.size+1) 58 #[.int .i64 0,.int .i64 0]):=qAc HR.out HB2.out (by omega)
 have hr0:=HRr.out.cell 0
 have hr1:=HRr.out.cell 1
 have hf0:=HRr.out.frozen 0
 have hf1:=HRr.out.frozen 1
 clear hl hsq hcm
 obtain⟨z,hzz⟩:∃z,0+u0+u1=z:=⟨_,rfl⟩
 have HZ0:Hid (u0+u1=z):=by show _=z;omega
 rw[hzz] at*
 have HZ:Hid ((f.args++f.locs).length=z):=by show _=z;rw[List.length_append,L0.out,L1.out,HZ0.out]
 have z0:z≤1000000:=by have:=HZ0.out;omega
 have HFin:Hid (∀u v,Below w.heap.size w ((w2.setCell ⟨w.heap.size+1,0,none⟩ u).setCell ⟨w.heap.size+1,1,none⟩ v)):=fun u v=>qA0 (HB.out.trans (HB2.out.mono (by omega))) (by omega)
 by_cases hneg:n<0
 · have HT:=qAZ (qFp (f:=f) hneg)
   exact jl
 · by_cases hout:(z:Int)≤n
   · have HT:=qAZ (qFo (f:=f) (n:=n) (by rw[L0.out,L1.out];have:=HZ.out;rw[List.length_append,L0.out,L1.out] at this;omega))
     exact jl
   · obtain⟨j,hj⟩:∃j:Nat,n=(j:Int):=⟨n.toNat,by omega⟩
     subst hj
     obtain⟨t,ht⟩:∃t,(f.args++f.locs)[j]? =some t:=⟨(f.args++f.locs)[j]'(by rw[HZ.out];omega),qAa _⟩
     have HT:=qAZ (qIw rfl ht)
     obtain⟨a,cs,rfl,hab,hc,hr⟩:=HS.out.at ht
     obtain⟨rfl,-,-⟩:=hr
     have k0:=hc 0 _ rfl
     rw[show j*typL.k+0=j*2 from rfl] at k0
     have k1:=hc 1 _ rfl
     rw[show j*typL.k+1=j*2+1 from rfl,qAl a (j*2) 1 (by omega)] at k1
     have j1:(j:Int)<(z:Int):=by omega
     clear hc ht hneg hout
     go_wp2_with fail
     exact bodyPost_ret (v:= .agg #[.int .i64 t.1,.int .i64 t.2]) (by simp[results,Tryz.results88,go_sem,hr0,hr1]) rfl ⟨by rw[HT.out],HFin.out _ _⟩
end Go.Proofs.YtconajaecpgjgaaGreat
