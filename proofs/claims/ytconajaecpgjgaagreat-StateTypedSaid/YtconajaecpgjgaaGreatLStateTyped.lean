/-
  The law StateTyped holds: state's Typed says of any state and any types what the document's own Typed says where the document's own Right says yes, and no otherwise; the law's function returns true and turns nothing that was there.
  Conditions: none.
-/
import Derived.Test.YtconajaecpgjgaaGreatT01
import Derived.Test.YtconajaecpgjgaaGreatT02
import Derived.Test.YtconajaecpgjgaaGreatT07
import Derived.Test.YtconajaecpgjgaaGreatT08
import Derived.Test.YtconajaecpgjgaaGreatT12
import Derived.Test.YtconajaecpgjgaaGreatT15
import Derived.Test.YtconajaecpgjgaaGreatT24
import Derived.Test.YtconajaecpgjgaaGreatT25
import Derived.Test.YtconajaecpgjgaaGreatT28
import Derived.Test.YtconajaecpgjgaaGreatT29
import Derived.Test.YtconajaecpgjgaaGreatT40
import Derived.Test.YtconajaecpgjgaaGreatT49
import Derived.Lib.QuietBelow
import Derived.BigQuiet
import Derived.Deep.DeepCutAuto
namespace Go.Proofs.YtconajaecpgjgaaGreat.stateTyped
open Go.ChangeShapes Go.WideShapes Go.ChangeAt Go.RowKit
set_option linter.unusedVariables false
set_option linter.unusedSimpArgs false
theorem st_shape {S:Nat→Prop} {w:World} {cs:List Value} {s:Stt} (h:stL.R S w cs s):∃F nf cf O no co H nh ch,cs=[.slice F nf cf,.slice O no co,.slice H nh ch,.int .i64 s.quota,.int .i64 s.used,.int .i64 s.fin,.int .u64 (s.val:Int)]∧s.fr.length≤9223372036854775807∧s.hp.length≤9223372036854775807:=by
 obtain⟨F,cf,O,co,H,ch,rfl,l0,l1,l2,l3,-⟩:=qBh h
 unfold maxLen at l1 l3
 exact⟨_,_,_,_,_,_,_,_,_,rfl,by omega,by omega⟩
set_option maxRecDepth 100000 in
set_option maxHeartbeats 4000000 in
theorem walk (cs:List Value) (m:Mod) (D:Option Addr) (n c:Nat) (L:List (List Shape)) (css:List Value) (s:Stt) (w:World) (h:modL.R (·<w.heap.size) w cs m) (hz:Zm m) (hl:L.length=n) (hL:mapsL.R (·<w.heap.size) w [.slice D n c] L) (hs:stL.R (·<w.heap.size) w css s):
 Calls Tryz.prog 4 #[vAgg cs,.slice D n c,vAgg css] w fun e w'=>e= .returned (.bool true)∧Below w.heap.size w w':=by
 have AN:=qAZ (fun w=>answers14 w)
 obtain⟨D',c',e1,hle,hcm,hsq⟩:=hL
 simp only[List.cons.injEq,Value.slice.injEq,and_true] at e1
 obtain⟨rfl,-,rfl⟩:=e1
 have hn63:n≤9223372036854775807:=by unfold maxLen at hcm;omega
 have SX:Hid (∀X,Below w.heap.size w X→stL.R (·<X.heap.size) X css s):=fun X hb=>stL.wide (stL.keep hs fun b h1=>hb.block b h1) fun b h1=>qAg h1 hb.size
 obtain⟨F,nf,cf,O,no,co,H,nh,ch,rfl,b1,b2⟩:=st_shape hs
 have L0:Hid (∀w1,Below w.heap.size w w1→Calls Tryz.prog 6 #[vAgg cs] w1 fun e w'=>∃b:Bool,e= .returned (.bool b)∧Below w1.heap.size w1 w'∧(b=true→Small m)):=fun w1 hb=>light_any cs m w1 (qBQ h hb) hz
 obtain⟨b0,hb0⟩:∃b0:Bool,(b0=true↔mainB m=true∧RightM m L):=⟨@decide (mainB m=true∧RightM m L) (Classical.propDecidable _),by simp⟩
 have RR:Hid (Small m→∀w1,Below w.heap.size w w1→Calls Tryz.prog 15 #[vAgg cs,.slice D n c] w1 fun e w'=>e= .returned (.bool b0)∧Below w1.heap.size w1 w'):=fun hs w1 hb=>qEz (rright_any rrule_any cs m D n c L w1 (qBQ h hb) hs hl (qBD hsq hb) hn63) hb0
 obtain⟨gt,hgt⟩:∃g,typedB m L s=g:=⟨_,rfl⟩
 have PT:Hid (∀w1,Below w.heap.size w w1→Calls Tryz.prog 13 #[vAgg cs,.slice D n c,vAgg [.slice F nf cf,.slice O no co,.slice H nh ch,.int .i64 s.quota,.int .i64 s.used,.int .i64 s.fin,.int .u64 (s.val:Int)]] w1 fun e w'=>e= .returned (.bool (b0 && gt))∧Below w1.heap.size w1 w'):=fun w1 hb=>by
  have:=typed_any cs _ m s D n c L w1 (qBQ h hb) (SX.out w1 hb) hl (qBD hsq hb) hn63 b0 hb0
  rw[hgt] at this
  exact this
 have RT:Hid (b0=true→∀w1,Below w.heap.size w w1→Calls Tryz.prog 16 #[vAgg cs,.slice D n c,vAgg [.slice F nf cf,.slice O no co,.slice H nh ch,.int .i64 s.quota,.int .i64 s.used,.int .i64 s.fin,.int .u64 (s.val:Int)]] w1 fun e w'=>e= .returned (.bool gt)∧Below w1.heap.size w1 w'):=fun h0 w1 hb=>by
  obtain⟨h1,h2⟩:=hb0.1 h0
  have hc0:checkN m=0:=by
   rcases Decidable.em (checkN m=0) with q|q
   · exact q
   · rw[qCO q] at h1;cases h1
  have:=rtyped_any cs _ m s D n c L w1 (qBQ h hb) (SX.out w1 hb) hl (qBD hsq hb) hn63 hc0 h2
  rw[hgt] at this
  exact this
 have SM:Hid (∀w1,Below w.heap.size w w1→Calls Tryz.prog 14 #[vAgg [.slice F nf cf,.slice O no co,.slice H nh ch,.int .i64 s.quota,.int .i64 s.used,.int .i64 s.fin,.int .u64 (s.val:Int)]] w1 fun e w'=>IsB e∧Below w1.heap.size w1 w'):=fun w1 hb=>small_any _ s w1 (SX.out w1 hb) b1 b2
 obtain⟨A0,A1,A2,A3,A4,n0,n1,n2,n3,n4,d0,d1,d2,d3,d4,rfl⟩:=qCy h
 clear h hz hl hsq hle hcm hb0 hs SX b1 b2 hgt
 generalize s.quota=q1 at*
 generalize s.used=q2 at*
 generalize s.fin=q3 at*
 generalize s.val=q4 at*
 simp only[vAgg] at L0 RR PT RT SM⊢
 show Calls Tryz.prog 4 #[.agg #[.slice A0 n0 d0,.slice A1 n1 d1,.slice A2 n2 d2,.slice A3 n3 d3,.slice A4 n4 d4],.slice D n c,.agg #[.slice F nf cf,.slice O no co,.slice H nh ch,.int .i64 q1,.int .i64 q2,.int .i64 q3,.int .u64 (q4:Int)]] w _
 go_enter Tryz.func4,Tryz.ntmps4
 go_upto_region 1 with(fail)
 refine qAp fun W hW=> ?_
 have KM:Hid (Blk W w.heap.size 28 #[.slice A0 n0 d0,.slice A1 n1 d1,.slice A2 n2 d2,.slice A3 n3 d3,.slice A4 n4 d4]):=by show Blk _ _ _ _;rw[hW];exact qAd (qAm rfl)
 have KS:Hid (Blk W (w.heap.size+1) 36 #[.slice F nf cf,.slice O no co,.slice H nh ch,.int .i64 q1,.int .i64 q2,.int .i64 q3,.int .u64 (q4:Int)]):=by show Blk _ _ _ _;rw[hW];exact qAm (by simp)
 have HB0:Hid (Below w.heap.size w W):=by show Below _ _ _;rw[hW];exact((qAe _ _).alloc (qAf _) _).alloc (by simp) _
 have hzW:w.heap.size+2≤W.heap.size:=by rw[hW];simp
 clear hW
 have BK:Hid (∀v,Below W.heap.size W v→Blk v w.heap.size 28 #[.slice A0 n0 d0,.slice A1 n1 d1,.slice A2 n2 d2,.slice A3 n3 d3,.slice A4 n4 d4]∧Blk v (w.heap.size+1) 36 #[.slice F nf cf,.slice O no co,.slice H nh ch,.int .i64 q1,.int .i64 q2,.int .i64 q3,.int .u64 (q4:Int)]):=fun v hb=>⟨qAc KM.out hb (by omega),qAc KS.out hb (by omega)⟩
 have HBB:Hid (∀v,Below W.heap.size W v→Below w.heap.size w v):=fun v hb=>HB0.out.trans (hb.mono HB0.out.size)
 have x0:=KM.out.cell 0
 have x1:=KM.out.cell 1
 have x2:=KM.out.cell 2
 have x3:=KM.out.cell 3
 have x4:=KM.out.cell 4
 go_upto_region 4 with(first
  |(go_at_call 6
    refine(L0.out W HB0.out).mono ?_
    rintro e w1 ⟨b,rfl,hb1,hsm⟩
    have HB1:=qAZ hb1
    obtain⟨kma,ksa⟩:=BK.out w1 hb1;have ma0:=kma.cell 0;have ma1:=kma.cell 1;have ma2:=kma.cell 2;have ma3:=kma.cell 3;have ma4:=kma.cell 4;have sa0:=ksa.cell 0;have sa1:=ksa.cell 1;have sa2:=ksa.cell 2;have sa3:=ksa.cell 3;have sa4:=ksa.cell 4;have sa5:=ksa.cell 5;have sa6:=ksa.cell 6;clear kma ksa
    clear hb1
    cases b
    · go_wp2_with (first|(go_at_call 7;refine(AN.out _).mono ?_;rintro e w9 ⟨rfl,hb9⟩;have HB9:=qAZ (HB1.out.trans (hb9.mono HB1.out.size));clear hb9))
      go_ret
      exact⟨rfl,HBB.out _ HB9.out⟩
    have RR1:=qAZ (RR.out (hsm rfl))
    clear hsm RR
    by_cases h10:(10:Int)<(n:Int)
    · go_wp2_with (first|(go_at_call 7;refine(AN.out _).mono ?_;rintro e w9 ⟨rfl,hb9⟩;have HB9:=qAZ (HB1.out.trans (hb9.mono HB1.out.size));clear hb9))
      go_ret
      exact⟨rfl,HBB.out _ HB9.out⟩)
  |(go_at_call 14
    refine(SM.out w1 (HBB.out _ HB1.out)).mono ?_
    rintro e w2 ⟨⟨b,rfl⟩,hb2⟩
    have HB2:Hid (Below W.heap.size W w2):=HB1.out.trans (hb2.mono HB1.out.size)
    obtain⟨kmb,ksb⟩:=BK.out w2 HB2.out;have mb0:=kmb.cell 0;have mb1:=kmb.cell 1;have mb2:=kmb.cell 2;have mb3:=kmb.cell 3;have mb4:=kmb.cell 4;have sb0:=ksb.cell 0;have sb1:=ksb.cell 1;have sb2:=ksb.cell 2;have sb3:=ksb.cell 3;have sb4:=ksb.cell 4;have sb5:=ksb.cell 5;have sb6:=ksb.cell 6;clear kmb ksb
    clear hb2
    cases b
    · go_wp2_with (first|(go_at_call 7;refine(AN.out _).mono ?_;rintro e w9 ⟨rfl,hb9⟩;have HB9:=qAZ (HB2.out.trans (hb9.mono HB2.out.size));clear hb9))
      go_ret
      exact⟨rfl,HBB.out _ HB9.out⟩)
  |(go_at_call 15
    refine(RR1.out w2 (HBB.out _ HB2.out)).mono ?_
    rintro e w3 ⟨rfl,hb3⟩
    have HB3:Hid (Below W.heap.size W w3):=HB2.out.trans (hb3.mono HB2.out.size)
    obtain⟨kmc,ksc⟩:=BK.out w3 HB3.out;have mc0:=kmc.cell 0;have mc1:=kmc.cell 1;have mc2:=kmc.cell 2;have mc3:=kmc.cell 3;have mc4:=kmc.cell 4;have sc0:=ksc.cell 0;have sc1:=ksc.cell 1;have sc2:=ksc.cell 2;have sc3:=ksc.cell 3;have sc4:=ksc.cell 4;have sc5:=ksc.cell 5;have sc6:=ksc.cell 6;clear kmc ksc
    clear hb3
    rcases hbz:b0 with _|_
    · clear RT
      subst hbz
      go_wp2_with (first
       |(go_at_call 7;refine(AN.out _).mono ?_;rintro e w4 ⟨rfl,hb4⟩;have HB4:=qAZ (HB3.out.trans (hb4.mono HB3.out.size));obtain⟨kmd,ksd⟩:=BK.out w4 HB4.out;have md0:=kmd.cell 0;have md1:=kmd.cell 1;have md2:=kmd.cell 2;have md3:=kmd.cell 3;have md4:=kmd.cell 4;have sd0:=ksd.cell 0;have sd1:=ksd.cell 1;have sd2:=ksd.cell 2;have sd3:=ksd.cell 3;have sd4:=ksd.cell 4;have sd5:=ksd.cell 5;have sd6:=ksd.cell 6;clear kmd ksd;clear hb4)
       |(go_at_call 13;refine(PT.out w4 (HBB.out _ HB4.out)).mono ?_;rintro e w5 ⟨rfl,hb5⟩;have HB5:=qAZ (HB4.out.trans (hb5.mono HB4.out.size));clear hb5))
      go_ret
      exact⟨rfl,HBB.out _ HB5.out⟩
    have RT1:=qAZ (RT.out hbz)
    subst hbz
    clear RT)
  |(go_at_call 16
    refine(RT1.out w3 (HBB.out _ HB3.out)).mono ?_
    rintro e w6 ⟨rfl,hb6⟩
    have HB6:Hid (Below W.heap.size W w6):=HB3.out.trans (hb6.mono HB3.out.size)
    clear hb6))
 cases gt
 all_goals
  go_wp2_with (first
   |(go_at_call 7;refine(AN.out _).mono ?_;rintro e w4 ⟨rfl,hb4⟩;have HB4:=qAZ (HB6.out.trans (hb4.mono HB6.out.size));obtain⟨kmd,ksd⟩:=BK.out w4 HB4.out;have md0:=kmd.cell 0;have md1:=kmd.cell 1;have md2:=kmd.cell 2;have md3:=kmd.cell 3;have md4:=kmd.cell 4;have sd0:=ksd.cell 0;have sd1:=ksd.cell 1;have sd2:=ksd.cell 2;have sd3:=ksd.cell 3;have sd4:=ksd.cell 4;have sd5:=ksd.cell 5;have sd6:=ksd.cell 6;clear kmd ksd;clear hb4)
   |(go_at_call 13;refine(PT.out w4 (HBB.out _ HB4.out)).mono ?_;rintro e w5 ⟨rfl,hb5⟩;have HB5:=qAZ (HB4.out.trans (hb5.mono HB4.out.size));clear hb5))
  go_ret
  exact⟨rfl,HBB.out _ HB5.out⟩
set_option maxRecDepth 100000 in
theorem lifted (os:Os) (started:os.Started) (H:Type) (enc:TypeId×Value→H):
 ReturnsInHanded {} Tryz.checked os 4 .any (Rows.stateTypedSpec.pre6 enc Tryz.prog Tryz.f4 Rows.stateTypedRow.domain false) (Rows.stateTypedSpec.post enc Tryz.prog Tryz.f4 false true false false):=by
 refine returnsInHanded_of_change_sized (C:=Tryz.checked) own started (by kernel_rfl) Tryz.func4
  (ChangeSpec.witness6 (enc:=enc) (C:=Tryz.checked) false ⟨#[],#[.agg #[.slice none 0 0,.slice none 0 0,.slice none 0 0,.slice none 0 0,.slice none 0 0],.slice none 0 0,.agg #[.slice none 0 0,.slice none 0 0,.slice none 0 0,.int .i64 0,.int .i64 0,.int .i64 0,.int .u64 0]],[]⟩ 8 (by kernel_rfl) (by kernel_rfl) (by kernel_rfl) (by kernel_rfl)) ?_
 intro W base args ds gs before hval0 hW hcnd hwz _
 have hval:∀(j:Nat) t v,Tryz.f4.params[j]? =some t→args[j]? =some v→Value.okWide Tryz.prog W .any base t v:=hval0
 have hW':=hW
 obtain⟨p,q,hA0,hV,rfl,hfz,hnd⟩:=hW
 have hA:DataW.TrodAll enc Tryz.prog W 0 (fun _=>true) true Tryz.f4.params.toList args.toList ds p:=hA0
 rw[Tryz.params4] at hA hval
 obtain⟨v0,vs0,d0,ds0,p0,q0,hargs,rfl,rfl,h0,r0⟩:=trodAll_cons hA
 obtain⟨v1,vs1,d1,ds1,p1,q1,rfl,rfl,rfl,h1,r1⟩:=trodAll_cons r0
 obtain⟨v2,vs2,d2,ds2,p2,q2,rfl,rfl,rfl,h2,r2⟩:=trodAll_cons r1
 obtain⟨rfl,rfl,rfl⟩:=trodAll_nil r2
 obtain rfl:args= #[v0,v1,v2]:=by cases args;simp_all
 obtain⟨rfl,rfl⟩:=trodVars_none hV
 have lt0:∀x∈p0,x.block<W.heap.size:=by obtain⟨m,hm⟩:=h0;exact DataW.trod_lt m _ _ _ hm
 have hwz0:∀n∈d0.weights Tryz.prog 28,n≤reachBytes:=fun n hn=>by simpa using List.all_eq_true.1 hwz n (DataW.weights_mem_each (j:=0) (t:=28) (d:=d0) (by first|rfl|kernel_rfl) rfl n hn)
 obtain⟨cs0,m0,rfl,hm0,hz0⟩:=open_modZ h0 hwz0
 obtain⟨a1,len1,cap1,rfl⟩:=okWide_slice Tryz.underlying41 (hval 1 41 v1 rfl rfl)
 have lt1:∀x∈p1,x.block<W.heap.size:=by obtain⟨m,hm⟩:=h1;exact DataW.trod_lt m _ _ _ hm
 obtain⟨L1,hx1,hM1⟩:=open_maps h1
 have lt2:∀x∈p2,x.block<W.heap.size:=by obtain⟨m,hm⟩:=h2;exact DataW.trod_lt m _ _ _ hm
 have hwz2:∀n∈d2.weights Tryz.prog 36,n≤reachBytes:=fun n hn=>by simpa using List.all_eq_true.1 hwz n (DataW.weights_mem_each (j:=2) (t:=36) (d:=d2) (by first|rfl|kernel_rfl) rfl n hn)
 obtain⟨cs2,s2,rfl,hs2,hz2⟩:=open_stZ h2 hwz2
 clear hA0 hval0
 refine(walk cs0 m0 a1 len1 cap1 L1 cs2 s2 W hm0 hz0 hx1 hM1 hs2).mono fun e W' ⟨he,bel⟩=> ?_
 subst he
 exact⟨_,rfl,_,_,_,[],_,[],hW',trodAll_mk1 (shut_bool Tryz.underlying4 _),(trodAll_cons_mk (Below.trod laidOut (by kernel_rfl) (of_decide_eq_true (by kernel_rfl)) h0 bel lt0) (trodAll_cons_mk (Below.trod laidOut (by kernel_rfl) (of_decide_eq_true (by kernel_rfl)) h1 bel lt1) (trodAll_cons_mk (Below.trod laidOut (by kernel_rfl) (of_decide_eq_true (by kernel_rfl)) h2 bel lt2) trodAll_mk0))),rfl,bel.frame _,fun h=>by cases h⟩
theorem over:Rows.stateTypedRow.holds Tryz.pinned (OpenSpec.ofChange Rows.stateTypedSpec):=
 OpenClaim.holds_of_wide 4 Tryz.f4 rfl rfl rfl rfl rfl rfl rfl ⟨rfl,rfl,rfl,rfl,rfl⟩ rfl rfl rfl rfl rfl (by kernel_rfl) Tryz.func4 (by kernel_rfl)
  (of_decide_eq_true (by kernel_rfl)) (by unfold Func.isWrapper;first|(rw[if_pos (by decide +kernel)];kernel_rfl)|(rw[if_neg (by decide +kernel)];exact⟨rfl,rfl⟩))
  (fun os started H enc _=>lifted os started H enc)
/-- The statement. -/
theorem proved:Rows.StateTypedSaid:=over
end Go.Proofs.YtconajaecpgjgaaGreat.stateTyped
