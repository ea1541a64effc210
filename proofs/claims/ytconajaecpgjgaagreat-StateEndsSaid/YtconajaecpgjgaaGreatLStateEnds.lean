/-
  The law StateEnds holds: at an end there is nothing but handles, and a value where it is done; the law's function returns true and turns nothing that was there.
  Conditions: none.
-/
import Derived.Test.YtconajaecpgjgaaGreatQ01
import Derived.Test.YtconajaecpgjgaaGreatQ02
import Derived.Test.YtconajaecpgjgaaGreatQ07
import Derived.Test.YtconajaecpgjgaaGreatQ12
import Derived.Test.YtconajaecpgjgaaGreatQ14
import Derived.Test.YtconajaecpgjgaaGreatQ27
import Derived.Test.YtconajaecpgjgaaGreatQ35
import Derived.Test.YtconajaecpgjgaaGreatQ44
import Derived.Test.YtconajaecpgjgaaGreatQ48
import Derived.Test.YtconajaecpgjgaaGreatQ50
import Derived.Lib.QuietBelow
import Derived.BigQuiet
namespace Go.Proofs.YtconajaecpgjgaaGreat.stateEnds
open Go.ChangeShapes Go.WideShapes Go.ChangeAt Go.RowKit
set_option linter.unusedVariables false
set_option linter.unusedSimpArgs false
def stE (H:List Hnd) (u e:Int) (v:Nat):Stt:=⟨[],[],H,65536,u,e,v⟩
def obE:Ob:=⟨3,0,[],[]⟩
def stE1 (H:List Hnd) (u e:Int) (v:Nat):Stt:=⟨[],[obE],H,65536,u,e,v⟩
theorem ends_typed (m:Mod) (L:List (List Shape)) (H:List Hnd) (u e:Int) (v n:Nat) (hn:H.length=n) (hu:0≤u∧u≤65535):typedB m L (stE H u e v)=(decide (1≤e) && decide (e≤7) && (((v:Int)==0) || (e==1)) && decide (n≤16) && H.all handB):=by
 subst hn
 unfold typedB countB endB stE
 cases H.all handB
 · simp
 by_cases he:e=0
 · subst he
   simp
 rw[Bool.eq_iff_iff]
 simp[he]
 omega
theorem ends_heap (m:Mod) (L:List (List Shape)) (H:List Hnd) (u e:Int) (v:Nat):typedB m L (stE1 H u e v)=false:=by
 by_cases he:e=0
 · subst he
   simp[typedB,endB,stE1]
 · simp[typedB,endB,stE1,he]
theorem hand_step {H:List Hnd} {k:Nat} {x:Hnd} (hx:H[k]? =some x) (g:Bool):(g && (H.take (k+1)).all handB)=((g && (H.take k).all handB) && handB x):=by
 obtain⟨h1,rfl⟩:=qAc.1 hx
 rw[qAo h1,List.all_append]
 simp[Bool.and_assoc]
theorem run_stE (A:Option Addr) (n c:Nat) (u e v:Int) (w:World):(Instr.build 36 #[(5,.int .i64 e),(6,.int .u64 v),(2,.slice A n c),(3,.int .i64 65536),(4,.int .i64 u)]).run Tryz.prog w= .ok (.agg #[.slice none 0 0,.slice none 0 0,.slice A n c,.int .i64 65536,.int .i64 u,.int .i64 e,.int .u64 v]) w:=by kernel_rfl
theorem run_obE (w:World):(Instr.build 54 #[(0,.int .i64 3)]).run Tryz.prog w= .ok (.agg #[.int .i64 3,.int .i64 0,.slice none 0 0,.slice none 0 0]) w:=by kernel_rfl
theorem stE_lies {w:World} {A:Option Addr} {n c:Nat} {H:List Hnd} {u e:Int} {v:Nat} (hl:H.length=n) (hc:n≤c∧c≤maxLen) (hs:Sq hdL (·<w.heap.size) w A H) (hu:I64 u) (he:I64 e) (hv:v<B64):
 stL.R (·<w.heap.size) w [.slice none 0 0,.slice none 0 0,.slice A n c,.int .i64 65536,.int .i64 u,.int .i64 e,.int .u64 (v:Int)] (stE H u e v):=by
 subst hl
 exact qHQ (s:=stE H u e v) (A0:=none) (A1:=none) (c0:=0) (c1:=0) ⟨qAZ _,by simp[maxLen]⟩ ⟨qAZ _,by simp[maxLen]⟩ hc (Sq.nil _ _ _ _) (Sq.nil _ _ _ _) hs ⟨⟨by simp[stE],by simp[stE]⟩,hu,he,hv⟩
theorem stE1_lies {w:World} {A:Option Addr} {n c G:Nat} {H:List Hnd} {u e:Int} {v:Nat} (hl:H.length=n) (hc:n≤c∧c≤maxLen) (hs:Sq hdL (·<w.heap.size) w A H) (hu:I64 u) (he:I64 e) (hv:v<B64) (ho:Blk w G 54 #[.int .i64 3,.int .i64 0,.slice none 0 0,.slice none 0 0]):
 stL.R (·<w.heap.size) w [.slice none 0 0,.slice (some ⟨G,0,none⟩) 1 1,.slice A n c,.int .i64 65536,.int .i64 u,.int .i64 e,.int .u64 (v:Int)] (stE1 H u e v):=by
 subst hl
 have q:Sq obL (·<w.heap.size) w (some ⟨G,0,none⟩) [obE]:=fun _=>⟨_,rfl,ho.lt,fun j x hx=>by
  have hj:=(qAc.1 hx).1
  obtain rfl:j=0:=by simp at hj;omega
  obtain rfl:obE=x:=by simpa using hx
  refine⟨[.int .i64 3,.int .i64 0,.slice none 0 0,.slice none 0 0],fun i y hy=> ?_,ob_make (o:=obE) (A:=none) (B:=none) (c:=0) (d:=0) (qAZ _) (by simp[maxLen]) (qAZ _) (by simp[maxLen]) (Sq.nil _ _ _ _) (Byt.nil _ _ _) (fun z hz=>by simp[obE] at hz) ⟨by decide,by decide⟩ ⟨by decide,by decide⟩⟩
  rw[show 0*obL.k+i=i from by omega]
  exact qIx ho i y hy⟩
 exact qHQ (s:=stE1 H u e v) (A0:=none) (c0:=0) (c1:=1) ⟨qAZ _,by simp[maxLen]⟩ ⟨qAZ _,by simp[maxLen]⟩ hc (Sq.nil _ _ _ _) q hs ⟨⟨by simp[stE1],by simp[stE1]⟩,hu,he,hv⟩
set_option maxRecDepth 100000 in
set_option maxHeartbeats 4000000 in
theorem walk (cs:List Value) (m:Mod) (e v0:Int) (A:Option Addr) (n c:Nat) (H:List Hnd) (u:Int) (w:World) (h:modL.R (·<w.heap.size) w cs m) (hz:Zm m) (he:I64 e) (hv:0≤v0∧v0≤18446744073709551615) (hl:H.length=n) (hM:(slL hdL).R (·<w.heap.size) w [.slice A n c] H) (hu:0≤u∧u≤65535):
 Calls Tryz.prog 5 #[vAgg cs,.int .i64 e,.int .u64 v0,.slice A n c,.int .u16 u] w fun e w'=>e= .returned (.bool true)∧Below w.heap.size w w':=by
 obtain⟨v,rfl⟩:=Int.eq_ofNat_of_zero_le hv.1
 have hv2:v<B64:=by unfold B64;omega
 have hu2:I64 u:=⟨by omega,by omega⟩
 have hwu:IntKind.i64.wrap u=u:=by rw[qAr];omega
 have AN:=qAU (fun w=>qE1 w)
 have L0:Hid (∀w1,Below w.heap.size w w1→Calls Tryz.prog 6 #[vAgg cs] w1 fun e w'=>∃b:Bool,e= .returned (.bool b)∧Below w1.heap.size w1 w'∧(b=true→Small m)):=fun w1 hb=>qEq cs m w1 (qBF h hb) hz
 have RM:Hid (Small m→∀w1,Below w.heap.size w w1→Calls Tryz.prog 9 #[vAgg cs] w1 fun e w'=>e= .returned (.bool (mainB m))∧Below w1.heap.size w1 w'):=fun hs w1 hb=>qEm cs m w1 (qBF h hb) hs
 have MA:Hid (checkN m=0→∀w1,Below w.heap.size w w1→Calls Tryz.prog 11 #[vAgg cs] w1 (RMaps m w1)):=fun hc w1 hb=>qEl qEk cs m w1 (qBF h hb) hc
 have TYc:Hid (∀(w1:World) css s D n c L,Below w.heap.size w w1→stL.R (·<w1.heap.size) w1 css s→L.length=n→Sq rowL (·<w1.heap.size) w1 D L→n≤9223372036854775807→mainB m=true→RightM m L→∀g,typedB m L s=g→Calls Tryz.prog 13 #[vAgg cs,.slice D n c,vAgg css] w1 (Tells g w1)):=fun w1 css s D n c L hb hs hl hL hn hm hr g ht=>by
  have:=qEj cs css m s D n c L w1 (qBF h hb) hs hl hL hn true ⟨fun _=>⟨hm,hr⟩,fun _=>rfl⟩
  rwa [ht] at this
 obtain⟨A',c',e1,hnc,hcm,hsq⟩:=hM
 simp only[List.cons.injEq,Value.slice.injEq,and_true] at e1
 obtain⟨rfl,-,rfl⟩:=e1
 rw[hl] at hnc
 have HSQ:Hid (∀v,Below w.heap.size w v→Sq hdL (·<v.heap.size) v A H):=fun v hb=>qBM hsq hb
 have HL:=qAU hl
 have HNC:Hid (n≤c∧c≤maxLen):=⟨hnc,hcm⟩
 have HV:=qAU hv2
 have HU:=qAU hu
 have HU2:=qAU hu2
 have HE:=qAU he
 obtain⟨A0,A1,A2,A3,A4,n0,n1,n2,n3,n4,c0,c1,c2,c3,cm,rfl⟩:=qB8 h
 clear h hz hsq hl hnc hcm hv hv2 hu hu2 he
 simp only[vAgg] at L0 RM MA TYc⊢
 have bld:=run_stE A n c u e (v:Int)
 have bld2:=run_obE
 show Calls Tryz.prog 5 #[.agg #[.slice A0 n0 c0,.slice A1 n1 c1,.slice A2 n2 c2,.slice A3 n3 c3,.slice A4 n4 cm],.int .i64 e,.int .u64 (v:Int),.slice A n c,.int .u16 u] w _
 go_enter Tryz.func5,Tryz.ntmps5
 go_wp2_with fail
 refine qBs fun W hW=> ?_
 have HB0:Hid (Below w.heap.size w W):=by show Below _ _ _;rw[hW];exact(qAb _ _).alloc (qAZ _) _
 have HC0:Hid (C5 w.heap.size (.slice A0 n0 c0) (.slice A1 n1 c1) (.slice A2 n2 c2) (.slice A3 n3 c3) (.slice A4 n4 cm) W):=by show C5 _ _ _ _ _ _ _;rw[hW];simp[C5,go_sem]
 have hzW:w.heap.size<W.heap.size:=by rw[hW];simp
 clear hW
 have HCV:Hid (∀v,Below W.heap.size W v→C5 w.heap.size (.slice A0 n0 c0) (.slice A1 n1 c1) (.slice A2 n2 c2) (.slice A3 n3 c3) (.slice A4 n4 cm) v):=fun v hb=>HC0.out.below hb hzW
 have HBB:Hid (∀v,Below W.heap.size W v→Below w.heap.size w v):=fun v hb=>HB0.out.trans (hb.mono HB0.out.size)
 refine(L0.out W HB0.out).mono ?_
 rintro e0 V ⟨b,rfl,hb1,hsm⟩
 have HB1:=qAU hb1
 obtain⟨x0,x1,x2,x3,x4⟩:=HCV.out V hb1
 clear hb1
 cases b
 · exact jR
 have RM1:=qAU (RM.out (hsm rfl))
 clear hsm RM
 cases hmb:mainB m
 · rw[hmb] at RM1
   clear hmb
   exact zU
 rw[hmb] at RM1
 have hc:checkN m=0:=by
  rcases Decidable.em (checkN m=0) with h|h
  · exact h
  · rw[qBx h] at hmb;cases hmb
 have MA1:=qAU (MA.out hc)
 have HMb:=qAU hmb
 clear hc hmb MA
 by_cases h30:30<n
 · have h30i:(30:Int)<(n:Int):=by omega
   clear h30
   exact zU
 have h30i:¬(30:Int)<(n:Int):=by omega
 clear h30
 go_upto_region 3 with(first
  |(go_at_call 9
    refine(RM1.out _ (HBB.out _ HB1.out)).mono ?_
    rintro e w2 ⟨rfl,hb_w2⟩
    have HB2:=qAU (HB1.out.trans (hb_w2.mono HB1.out.size))
    clear hb_w2))
 obtain⟨y0,y1,y2,y3,y4⟩:=HCV.out w2 HB2.out
 clear x0 x1 x2 x3 x4
 go_wp2_with fail
 refine(MA1.out w2 (HBB.out _ HB2.out)).mono ?_
 rintro e0 w3 ⟨hb3,hcase⟩
 have HB3:=qAU (HB2.out.trans (hb3.mono HB2.out.size))
 clear hb3 y0 y1 y2 y3 y4
 rcases hcase with⟨hN,rfl⟩|⟨L,A',c',hL,rfl,hml⟩
 · clear hN
   go_wp2_with (first
    |(go_at_call 7
      refine(AN.out _).mono ?_
      rintro e w4 ⟨rfl,hb_w4⟩
      have HB4:=qAU (HB3.out.trans (hb_w4.mono HB3.out.size))
      clear hb_w4))
   go_ret
   exact⟨rfl,HBB.out _ HB4.out⟩
 have HLr:=qAU hL.right
 obtain⟨A5,c5,e1,hle,hcm,hsq⟩:=hml
 simp only[List.cons.injEq,Value.slice.injEq,and_true,true_and] at e1
 obtain⟨rfl,rfl⟩:=e1
 obtain⟨nL,hnL⟩:∃nL,L.length=nL:=⟨_,rfl⟩
 have HnL:=qAU hnL
 have HML:Hid (∀v,Below w3.heap.size w3 v→Sq rowL (·<v.heap.size) v A' L):=fun v hb=>qBM hsq hb
 have HnM:Hid (nL≤9223372036854775807):=by show _≤_;unfold maxLen at hcm;omega
 rw[hnL]
 clear hL hle hcm hsq hnL
 go_upto_region 7 with(fail)
 refine qAj fun V6 hV6=> ?_
 obtain⟨G,hG⟩:∃G,w3.heap.size=G:=⟨_,rfl⟩
 have hBV6:Below w3.heap.size w3 V6:=by rw[hV6];exact(qAb _ _).alloc (qAZ _) _
 have HK6:Hid (Blk V6 G 36 #[.slice none 0 0,.slice none 0 0,.slice A n c,.int .i64 65536,.int .i64 u,.int .i64 e,.int .u64 (v:Int)]):=by show Blk _ _ _ _;rw[hV6];exact qAh hG
 have hs6:V6.heap.size=G+1:=by rw[hV6];simp[hG]
 have HB6:=qAU (HB3.out.trans (hBV6.mono HB3.out.size))
 have HB36:=qAU hBV6
 rw[hG]
 clear hV6 hG hBV6 bld hwu
 obtain⟨z2,hz2⟩:∃z,((v:Int)==0)=z:=⟨_,rfl⟩
 obtain⟨z3,hz3⟩:∃z,(e==1)=z:=⟨_,rfl⟩
 obtain⟨g0,hg0⟩:∃g,(decide (1≤e) && decide (e≤7) && (z2 || z3) && decide (n≤16))=g:=⟨_,rfl⟩
 obtain⟨g,hg⟩:∃g,(g0 && H.all handB)=g:=⟨_,rfl⟩
 have HT:Hid (∀L,typedB m L (stE H u e v)=g):=fun L=>by rw[ends_typed m L H u e v n HL.out HU.out,hz2,hz3,hg0,hg]
 have HG0:=qAU hg0
 have HG:=qAU hg
 clear hg0 hg
 go_cut [14] (fun s14 wx=>s14= .bool g0∧wx=V6)
 case first=>
  by_cases a1:1≤e
  rotate_left
  · go_wp2_with fail
    go_meet
    exact⟨by rw[←HG0.out,decide_eq_false (show ¬(1:Int)≤e by omega)];rfl,rfl⟩
  by_cases a2:e≤7
  rotate_left
  · go_wp2_with fail
    go_meet
    exact⟨by rw[←HG0.out,decide_eq_true a1,decide_eq_false (show ¬e≤(7:Int) by omega)];rfl,rfl⟩
  cases z2
  · cases z3
    · go_wp2_with fail
      go_meet
      exact⟨by rw[←HG0.out,decide_eq_true a1,decide_eq_true a2];rfl,rfl⟩
    · exact ze
  · exact ze
 case rest=>
  obtain⟨rfl,ew⟩:=hcut
  have ew:=ew.symm
  subst ew
  clear hz2 hz3 HG0
  go_wp2_with fail
  go_loopw [14,15] (fun a b wr=>∃k:Nat,k≤n∧a= .bool (g0 && (H.take k).all handB)∧b= .int .i64 (k:Nat)∧wr=V6) (fun _ b _=>n-(intOf b).toNat)
  case atStart=>exact⟨0,qAn _,by simp,rfl,rfl⟩
  case round=>
   obtain⟨k,hk,rfl,rfl,ew⟩:=hrel
   have ew:=ew.symm
   subst ew
   by_cases hlt:k<n
   · as_aux_lemma=>
     obtain⟨x,hx⟩:∃x,H[k]? =some x:=⟨H[k]'qi,qAY _⟩
     have HST:=qAU (hand_step hx g0)
     obtain⟨aH,csx,rfl,-,hcx,hRx⟩:=(HSQ.out V6 (HBB.out _ HB6.out)).at hx
     obtain⟨rfl,-,-⟩:=hRx
     have q:=hcx 0 _ rfl
     rw[show k*hdL.k+0=k*3 from rfl] at q
     have k0:(0:Int)≤(k:Int):=by omega
     have k1:(k:Int)<(n:Int):=by omega
     obtain⟨gk,hgk⟩:∃b,(g0 && (H.take k).all handB)=b:=⟨_,rfl⟩
     rw[hgk] at HST⊢
     clear hgk hcx hx
     obtain⟨ki,hki⟩:∃y,x.kind=y:=⟨_,rfl⟩
     have HKI:Hid (handB x=decide (0≤ki∧ki≤3)):=by show _=_;rw[←hki];rfl
     rw[hki] at q
     clear hki
     cases gk
     · go_wp2_with fail
       exact⟨⟨k+1,by omega,by rw[HST.out,HKI.out];rfl,by simp,by trivial⟩,by simp[intOf];omega⟩
     by_cases p1:0≤ki
     rotate_left
     · go_wp2_with fail
       exact⟨⟨k+1,by omega,by rw[HST.out,HKI.out];simp[p1],by simp,by trivial⟩,by simp[intOf];omega⟩
     by_cases p2:ki<4
     · have p3:ki≤3:=by omega
       exact qAG
     · have p3:¬ki≤3:=by omega
       exact qAG
   · obtain rfl:k=n:=by omega
     have hgg:(g0 && (H.take k).all handB)=g:=by rw[qAi (by rw[HL.out];omega)];exact HG.out
     rw[hgg]
     clear hgg hlt hk
     have k1:¬(k:Int)<(k:Int):=by omega
     obtain⟨q0,q1,q2,q3,q4,q5,q6⟩:V6.cell? ⟨G,0,none⟩=some (.slice none 0 0)∧V6.cell? ⟨G,1,none⟩=some (.slice none 0 0)∧V6.cell? ⟨G,2,none⟩=some (.slice A k c)∧V6.cell? ⟨G,3,none⟩=some (.int .i64 65536)∧V6.cell? ⟨G,4,none⟩=some (.int .i64 u)∧V6.cell? ⟨G,5,none⟩=some (.int .i64 e)∧V6.cell? ⟨G,6,none⟩=some (.int .u64 (v:Int)):=⟨HK6.out.cell 0,HK6.out.cell 1,HK6.out.cell 2,HK6.out.cell 3,HK6.out.cell 4,HK6.out.cell 5,HK6.out.cell 6⟩
     go_upto_region 14 with(fail)
     refine qAj fun X hX=> ?_
     have hb0:Below V6.heap.size V6 X:=by rw[hX];exact((qAb _ _).alloc (qAZ _) _).alloc (by simp) _
     have hbs:Blk X (G+1+1) 54 #[.int .i64 3,.int .i64 0,.slice none 0 0,.slice none 0 0]:=by rw[hX];exact qAh (by simp[hs6])
     have hbt:Blk X (G+1) 36 #[.slice none 0 0,.slice (some ⟨G+1+1,0,none⟩) 1 1,.slice A k c,.int .i64 65536,.int .i64 u,.int .i64 e,.int .u64 (v:Int)]:=by rw[hX];exact qAV (qAh hs6)
     have hbm:=hb0
     have hBW:Below W.heap.size W X:=HB6.out.trans (hb0.mono HB6.out.size)
     have hK:=qAX HK6.out hb0 (by omega)
     have TS:Hid (∀w9,Below X.heap.size X w9→Calls Tryz.prog 13 #[.agg #[.slice A0 n0 c0,.slice A1 n1 c1,.slice A2 n2 c2,.slice A3 n3 c3,.slice A4 n4 cm],.slice A' nL c',.agg #[.slice none 0 0,.slice none 0 0,.slice A k c,.int .i64 65536,.int .i64 u,.int .i64 e,.int .u64 (v:Int)]] w9 (Tells g w9)):=fun w1 hb=>by
      have hb1:=hBW.trans (hb.mono hBW.size)
      have hb2:=HB36.out.trans ((hb0.trans (hb.mono hb0.size)).mono HB36.out.size)
      have:=TYc.out w1 _ _ A' nL c' L (HBB.out _ hb1) (stE_lies HL.out HNC.out (HSQ.out _ (HBB.out _ hb1)) HU2.out HE.out HV.out) HnL.out (HML.out _ hb2) HnM.out HMb.out HLr.out g (HT.out L)
      simpa[vAgg] using this
     have TT:Hid (∀w9,Below X.heap.size X w9→Calls Tryz.prog 13 #[.agg #[.slice A0 n0 c0,.slice A1 n1 c1,.slice A2 n2 c2,.slice A3 n3 c3,.slice A4 n4 cm],.slice A' nL c',.agg #[.slice none 0 0,.slice (some ⟨G+1+1,0,none⟩) 1 1,.slice A k c,.int .i64 65536,.int .i64 u,.int .i64 e,.int .u64 (v:Int)]] w9 (Tells false w9)):=fun w1 hb=>by
      have hb1:=hBW.trans (hb.mono hBW.size)
      have hb2:=HB36.out.trans ((hb0.trans (hb.mono hb0.size)).mono HB36.out.size)
      have:=TYc.out w1 _ _ A' nL c' L (HBB.out _ hb1) (stE1_lies HL.out HNC.out (HSQ.out _ (HBB.out _ hb1)) HU2.out HE.out HV.out (qAX hbs hb hbs.lt)) HnL.out (HML.out _ hb2) HnM.out HMb.out HLr.out false (ends_heap m L H u e v)
      simpa[vAgg] using this
     have HBX:=qAU hBW
     have HKS:Hid (∀w9,Below X.heap.size X w9→Blk w9 G 36 #[.slice none 0 0,.slice none 0 0,.slice A k c,.int .i64 65536,.int .i64 u,.int .i64 e,.int .u64 (v:Int)]∧Blk w9 (G+1) 36 #[.slice none 0 0,.slice (some ⟨G+1+1,0,none⟩) 1 1,.slice A k c,.int .i64 65536,.int .i64 u,.int .i64 e,.int .u64 (v:Int)]):=fun w9 hb=>⟨qAX hK hb hK.lt,qAX hbt hb hbt.lt⟩
     have HXV:Hid (∀w9,Below X.heap.size X w9→Below W.heap.size W w9):=fun w9 hb=>HBX.out.trans (hb.mono HBX.out.size)
     clear hX hb0 hbs hbt hbm hBW hK q0 q1 q2 q3 q4 q5 q6 hs6 k1 bld2
     cases g
     all_goals
      go_wp2_with (first
       |(go_at_call 7
         refine(AN.out _).mono ?_
         rintro e0 w7 ⟨rfl,hb7⟩
         have HB7:=qAU hb7
         obtain⟨u0,u1,u2,u3,u4⟩:=HCV.out w7 (HXV.out _ hb7)
         obtain⟨hK,hbt⟩:=HKS.out w7 hb7
         have s0:=hK.cell 0
         have s1:=hK.cell 1
         have s2:=hK.cell 2
         have s3:=hK.cell 3
         have s4:=hK.cell 4
         have s5:=hK.cell 5
         have s6:=hK.cell 6
         clear hb7 hK hbt)
       |(go_at_call 13
         (with_reducible refine(TS.out _ HB7.out).mono ?_)
         rintro e0 w8 ⟨rfl,hb8⟩
         have HB8:=qAU (HB7.out.trans (hb8.mono HB7.out.size))
         obtain⟨x0,x1,x2,x3,x4⟩:=HCV.out w8 (HXV.out _ HB8.out)
         obtain⟨hK,hbt⟩:=HKS.out w8 HB8.out
         have t0:=hbt.cell 0
         have t1:=hbt.cell 1
         have t2:=hbt.cell 2
         have t3:=hbt.cell 3
         have t4:=hbt.cell 4
         have t5:=hbt.cell 5
         have t6:=hbt.cell 6
         clear hb8 hK hbt u0 u1 u2 u3 u4 s0 s1 s2 s3 s4 s5 s6)
       |(go_at_call 13
         (with_reducible refine(TT.out _ HB8.out).mono ?_)
         rintro e0 w9 ⟨rfl,hb9⟩
         have HB9:=qAU (HB8.out.trans (hb9.mono HB8.out.size))
         clear hb9))
      go_ret
      exact⟨rfl,HBB.out _ (HXV.out _ HB9.out)⟩
set_option maxRecDepth 100000 in
theorem lifted (os:Os) (started:os.Started) (H:Type) (enc:TypeId×Value→H):
 ReturnsInHanded {} Tryz.checked os 5 .any (Rows.stateEndsSpec.pre6 enc Tryz.prog Tryz.f5 Rows.stateEndsRow.domain false) (Rows.stateEndsSpec.post enc Tryz.prog Tryz.f5 false true false false):=by
 refine returnsInHanded_of_change_sized (C:=Tryz.checked) own started qQ Tryz.func5
  (ChangeSpec.witness6 (enc:=enc) (C:=Tryz.checked) false ⟨#[],#[.agg #[.slice none 0 0,.slice none 0 0,.slice none 0 0,.slice none 0 0,.slice none 0 0],.int .i64 0,.int .u64 0,.slice none 0 0,.int .u16 0],[]⟩ 8 qQ qQ qQ qQ) ?_
 intro W base args ds gs before hval0 hW hcnd hwz _
 have hval:∀(j:Nat) t v,Tryz.f5.params[j]? =some t→args[j]? =some v→Value.okWide Tryz.prog W .any base t v:=hval0
 have hW':=hW
 obtain⟨p,q,hA0,hV,rfl,hfz,hnd⟩:=hW
 have hA:DataW.TrodAll enc Tryz.prog W 0 (fun _=>true) true Tryz.f5.params.toList args.toList ds p:=hA0
 rw[Tryz.params5] at hA hval
 obtain⟨v0,vs0,d0,ds0,p0,q0,hargs,rfl,rfl,h0,r0⟩:=trodAll_cons hA
 obtain⟨v1,vs1,d1,ds1,p1,q1,rfl,rfl,rfl,h1,r1⟩:=trodAll_cons r0
 obtain⟨v2,vs2,d2,ds2,p2,q2,rfl,rfl,rfl,h2,r2⟩:=trodAll_cons r1
 obtain⟨v3,vs3,d3,ds3,p3,q3,rfl,rfl,rfl,h3,r3⟩:=trodAll_cons r2
 obtain⟨v4,vs4,d4,ds4,p4,q4,rfl,rfl,rfl,h4,r4⟩:=trodAll_cons r3
 obtain⟨rfl,rfl,rfl⟩:=trodAll_nil r4
 obtain rfl:args= #[v0,v1,v2,v3,v4]:=by cases args;simp_all
 obtain⟨rfl,rfl⟩:=trodVars_none hV
 have lt0:∀x∈p0,x.block<W.heap.size:=by obtain⟨m,hm⟩:=h0;exact DataW.trod_lt m _ _ _ hm
 have hwz0:∀n∈d0.weights Tryz.prog 28,n≤reachBytes:=fun n hn=>by simpa using List.all_eq_true.1 hwz n (DataW.weights_mem_each (j:=0) (t:=28) (d:=d0) (by first|rfl|kernel_rfl) rfl n hn)
 obtain⟨cs0,m0,rfl,hm0,hz0⟩:=qEn h0 hwz0
 obtain⟨a1,rfl,rfl,rfl,w1⟩:=open_int Tryz.underlying3 (hval 1 3 v1 rfl rfl) h1
 obtain⟨a2,rfl,rfl,rfl,w2⟩:=open_int Tryz.underlying34 (hval 2 34 v2 rfl rfl) h2
 obtain⟨a3,len3,cap3,rfl⟩:=okWide_slice Tryz.underlying33 (hval 3 33 v3 rfl rfl)
 have lt3:∀x∈p3,x.block<W.heap.size:=by obtain⟨m,hm⟩:=h3;exact DataW.trod_lt m _ _ _ hm
 obtain⟨L3,hx3,hM3⟩:=qH3 h3
 obtain⟨a4,rfl,rfl,rfl,w4⟩:=open_int Tryz.underlying49 (hval 4 49 v4 rfl rfl) h4
 clear hA0 hval0
 refine(walk cs0 m0 a1 a2 a3 len3 cap3 L3 a4 W hm0 hz0 (qCp w1) (bounds_u64 w2) hx3 hM3 (bounds_u16 w4)).mono fun e W' ⟨he,bel⟩=> ?_
 subst he
 exact⟨_,rfl,_,_,_,[],_,[],hW',trodAll_mk1 (shut_bool Tryz.underlying4 _),(trodAll_cons_mk (Below.trod qFI qQ (of_decide_eq_true qQ) h0 bel lt0) (trodAll_cons_mk (shut_int Tryz.underlying3 w1) (trodAll_cons_mk (shut_int Tryz.underlying34 w2) (trodAll_cons_mk (Below.trod qFI qQ (of_decide_eq_true qQ) h3 bel lt3) (trodAll_cons_mk (shut_int Tryz.underlying49 w4) trodAll_mk0))))),rfl,bel.frame _,fun h=>by cases h⟩
theorem over:Rows.stateEndsRow.holds Tryz.pinned (OpenSpec.ofChange Rows.stateEndsSpec):=
 OpenClaim.holds_of_wide 5 Tryz.f5 rfl rfl rfl rfl rfl rfl rfl ⟨rfl,rfl,rfl,rfl,rfl⟩ rfl rfl rfl rfl rfl qQ Tryz.func5 qQ
  (of_decide_eq_true qQ) (by unfold Func.isWrapper;first|(rw[if_pos jb];kernel_rfl)|(rw[if_neg jb];exact⟨rfl,rfl⟩))
  (fun os started H enc _=>lifted os started H enc)
/-- The statement. -/
theorem proved:Rows.StateEndsSaid:=over
end Go.Proofs.YtconajaecpgjgaaGreat.stateEnds
