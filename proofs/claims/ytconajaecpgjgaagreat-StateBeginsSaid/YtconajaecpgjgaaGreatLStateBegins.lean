/-
  The law StateBegins holds: where any module begins, and that this is typed, is what the document says; the law's function returns true and turns nothing that was there.
  Conditions: none.
-/
import Derived.Test.YtconajaecpgjgaaGreatQ01
import Derived.Test.YtconajaecpgjgaaGreatQ02
import Derived.Test.YtconajaecpgjgaaGreatQ07
import Derived.Test.YtconajaecpgjgaaGreatQ12
import Derived.Test.YtconajaecpgjgaaGreatQ14
import Derived.Test.YtconajaecpgjgaaGreatQ27
import Derived.Test.YtconajaecpgjgaaGreatQ35
import Derived.Test.YtconajaecpgjgaaGreatQ44
import Derived.Test.YtconajaecpgjgaaGreatQ48
import Derived.Test.YtconajaecpgjgaaGreatQ49
import Derived.Lib.QuietBelow
import Derived.BigQuiet
namespace Go.Proofs.YtconajaecpgjgaaGreat.stateBegins
open Go.ChangeShapes Go.WideShapes Go.ChangeAt Go.RowKit
set_option linter.unusedVariables false
set_option linter.unusedSimpArgs false
theorem low_begin (n:Nat) (q:Int) (hn:n≤1000):(beginS n q).low:=⟨by simp[beginS],by simp[beginS],by simp[beginS],fun f hf=>by simp[beginS] at hf;subst hf;exact⟨by simp;omega,by simp⟩,fun o ho=>by simp[beginS] at ho⟩
def s0:Stt:=⟨[],[],[],0,0,0,0⟩
theorem low_s0:s0.low:=⟨by decide,by decide,by decide,fun f hf=>by simp[s0] at hf,fun o ho=>by simp[s0] at ho⟩
theorem s0_lies (w:World):stL.R (·<w.heap.size) w [.slice none 0 0,.slice none 0 0,.slice none 0 0,.int .i64 0,.int .i64 0,.int .i64 0,.int .u64 0] s0:=⟨_,_,_,rfl,qBN _ _ _,qBN _ _ _,qBN _ _ _,⟨by decide,by decide⟩,⟨by decide,by decide⟩,⟨by decide,by decide⟩,by decide⟩
set_option maxRecDepth 100000 in
set_option maxHeartbeats 4000000 in
theorem walk (cs:List Value) (m:Mod) (q:Int) (w:World) (h:modL.R (·<w.heap.size) w cs m) (hz:Zm m) (hq:I64 q):
 Calls Tryz.prog 3 #[vAgg cs,.int .i64 q] w fun e w'=>e= .returned (.bool true)∧Below w.heap.size w w':=by
 have AN:=qAU (fun w=>qE1 w)
 have L0:Hid (∀w1,Below w.heap.size w w1→Calls Tryz.prog 6 #[vAgg cs] w1 fun e w'=>∃b:Bool,e= .returned (.bool b)∧Below w1.heap.size w1 w'∧(b=true→Small m)):=fun w1 hb=>qEq cs m w1 (qBF h hb) hz
 have RM:Hid (Small m→∀w1,Below w.heap.size w w1→Calls Tryz.prog 9 #[vAgg cs] w1 fun e w'=>e= .returned (.bool (mainB m))∧Below w1.heap.size w1 w'):=fun hs w1 hb=>qEm cs m w1 (qBF h hb) hs
 have MA:Hid (checkN m=0→∀w1,Below w.heap.size w w1→Calls Tryz.prog 11 #[vAgg cs] w1 (RMaps m w1)):=fun hc w1 hb=>qEl qEk cs m w1 (qBF h hb) hc
 have BN:Hid ((mainB m && decide (0≤q∧q≤65536))=false→∀w1,Below w.heap.size w w1→Calls Tryz.prog 8 #[vAgg cs,.int .i64 q] w1 fun e w'=>e= .returned (.tuple #[.agg #[.slice none 0 0,.slice none 0 0,.slice none 0 0,.int .i64 0,.int .i64 0,.int .i64 0,.int .u64 0],.int .i64 1])∧Below w1.heap.size w1 w'):=fun hno w1 hb=>qKX cs m q w1 (qBF h hb) hno
 have BY:Hid (∀fn fs,m.funcs=fn::fs→fn.locs.length≤1000→mainB m=true→0≤q∧q≤65536→∀w1,Below w.heap.size w w1→Calls Tryz.prog 8 #[vAgg cs,.int .i64 q] w1 fun e w'=>∃cs',e= .returned (.tuple #[vAgg cs',.int .i64 0])∧stL.R (·<w'.heap.size) w' cs' (beginS fn.locs.length q)∧Below w1.heap.size w1 w'):=fun fn fs hf hn hm hq0 w1 hb=>qEz cs m fn fs q w1 (qBF h hb) hf hn hq hm hq0
 have RBY:Hid (∀fn fs,m.funcs=fn::fs→fn.locs.length≤1000→∀w1,Below w.heap.size w w1→Calls Tryz.prog 12 #[vAgg cs,.int .i64 q] w1 fun e w'=>∃cs',e= .returned (vAgg cs')∧stL.R (·<w'.heap.size) w' cs' (beginS fn.locs.length q)∧Below w1.heap.size w1 w'):=fun fn fs hf hn w1 hb=>qGr cs m fn fs q w1 (qBF h hb) hf hn hq
 have TYc:Hid (∀(w1:World) css s D n c L,Below w.heap.size w w1→stL.R (·<w1.heap.size) w1 css s→L.length=n→Sq rowL (·<w1.heap.size) w1 D L→n≤9223372036854775807→mainB m=true→RightM m L→typedB m L s=true→Calls Tryz.prog 13 #[vAgg cs,.slice D n c,vAgg css] w1 (Tells true w1)):=fun w1 css s D n c L hb hs hl hL hn hm hr ht=>by
  have:=qEj cs css m s D n c L w1 (qBF h hb) hs hl hL hn true ⟨fun _=>⟨hm,hr⟩,fun _=>rfl⟩
  rwa [ht] at this
 obtain⟨A0,A1,A2,A3,A4,n0,n1,n2,n3,n4,c0,c1,c2,c3,cm,rfl⟩:=qB8 h
 clear h hz
 simp only[vAgg] at L0 RM MA BN BY RBY TYc⊢
 have bld:=qHT
 go_enter Tryz.func3,Tryz.ntmps3
 go_wp2_with fail
 refine qBs fun W hW=> ?_
 have HB0:Hid (Below w.heap.size w W):=by show Below _ _ _;rw[hW];exact(qAb _ _).alloc (qAZ _) _
 have HC0:Hid (C5 w.heap.size (.slice A0 n0 c0) (.slice A1 n1 c1) (.slice A2 n2 c2) (.slice A3 n3 c3) (.slice A4 n4 cm) W):=by show C5 _ _ _ _ _ _ _;rw[hW];simp[C5,go_sem]
 have hzW:w.heap.size<W.heap.size:=by rw[hW];simp
 clear hW
 have HCV:Hid (∀v,Below W.heap.size W v→C5 w.heap.size (.slice A0 n0 c0) (.slice A1 n1 c1) (.slice A2 n2 c2) (.slice A3 n3 c3) (.slice A4 n4 cm) v):=fun v hb=>HC0.out.below hb hzW
 have HBB:Hid (∀v,Below W.heap.size W v→Below w.heap.size w v):=fun v hb=>HB0.out.trans (hb.mono HB0.out.size)
 refine(L0.out W HB0.out).mono ?_
 rintro e V ⟨b,rfl,hb1,hsm⟩
 have HB1:=qAU hb1
 obtain⟨x0,x1,x2,x3,x4⟩:=HCV.out V hb1
 clear hb1
 cases b
 · exact jR
 have RM1:=qAU (RM.out (hsm rfl))
 clear hsm RM
 cases hgood:(mainB m && decide (0≤q∧q≤65536))
 · have BN1:=qAU (BN.out hgood)
   have SZ:Hid (∀w1,Calls Tryz.prog 10 #[.agg #[.slice none 0 0,.slice none 0 0,.slice none 0 0,.int .i64 0,.int .i64 0,.int .i64 0,.int .u64 0],.agg #[.slice none 0 0,.slice none 0 0,.slice none 0 0,.int .i64 0,.int .i64 0,.int .i64 0,.int .u64 0]] w1 (Tells true w1)):=fun w1=>by
    have:=qDf _ _ s0 s0 w1 (s0_lies w1) (s0_lies w1) low_s0 low_s0
    rwa [qB4] at this
   cases hmb:mainB m
   · rw[hmb] at RM1
     clear hgood hmb
     exact qJ
   rw[hmb] at RM1 hgood
   have hq2:¬(0≤q∧q≤65536):=by simpa using hgood
   clear hgood hmb
   by_cases hq0:q<0
   · exact qJ
   · have hq1:65536<q:=by omega
     exact qJ
 simp only[Bool.and_eq_true,decide_eq_true_eq] at hgood
 obtain⟨hmb,hq0⟩:=hgood
 have hc:checkN m=0:=by
  rcases Decidable.em (checkN m=0) with h|h
  · exact h
  · rw[qBx h] at hmb;cases hmb
 obtain⟨fn,fs,hf⟩:∃fn fs,m.funcs=fn::fs:=by
  cases e:m.funcs with
  |nil=>rw[mainB,e] at hmb;simp at hmb
  |cons fn fs=>exact⟨fn,fs,rfl⟩
 have hnl:fn.locs.length≤1000:=by have:=(qBb hc (by rw[hf];simp:fn∈m.funcs)).2.1;omega
 have BY1:=qAU (BY.out fn fs hf hnl hmb hq0)
 have RB1:=qAU (RBY.out fn fs hf hnl)
 have MA1:=qAU (MA.out hc)
 have HMb:=qAU hmb
 have HF:=qAU hf
 have HQ0:=qAU hq0
 have HLow:=qAU (low_begin fn.locs.length q hnl)
 have hq1:¬q<0:=by omega
 have hq2:¬(65536:Int)<q:=by omega
 rw[hmb] at RM1
 clear hmb hc hf hnl hq0 BN BY RBY MA hq
 go_upto_region 4 with(first
  |(go_at_call 8
    refine(BY1.out _ (HBB.out _ HB1.out)).mono ?_
    rintro e w2 ⟨cs',rfl,hR,hb_w2⟩
    have HB2:=qAU (HB1.out.trans (hb_w2.mono HB1.out.size))
    obtain⟨F,cf,O,co,H,ch,ecs,-⟩:=qBT hR
    have ecs':cs'=[.slice F 1 cf,.slice O 0 co,.slice H 0 ch,.int .i64 q,.int .i64 0,.int .i64 0,.int .u64 0]:=ecs
    subst ecs'
    have HR2:=qAU hR
    clear x0 x1 x2 x3 x4 hR ecs
    clear hb_w2))
 refine qAj fun V3 hV3=> ?_
 obtain⟨G,hG⟩:∃G,w2.heap.size=G:=⟨_,rfl⟩
 have hBV3:Below w2.heap.size w2 V3:=by rw[hV3];exact(qAb _ _).alloc (qAZ _) _
 have HK3:Hid (Blk V3 G 36 #[.slice F 1 cf,.slice O 0 co,.slice H 0 ch,.int .i64 q,.int .i64 0,.int .i64 0,.int .u64 0]):=by show Blk _ _ _ _;rw[hV3];exact qAh hG
 have HB3:=qAU (HB2.out.trans (hBV3.mono HB2.out.size))
 have HSS:Hid (∀v,Below V3.heap.size V3 v→stL.R (·<v.heap.size) v [.slice F 1 cf,.slice O 0 co,.slice H 0 ch,.int .i64 q,.int .i64 0,.int .i64 0,.int .u64 0] (beginS fn.locs.length q)):=fun v hb=>by
  have hb2:=hBV3.trans (hb.mono hBV3.size)
  exact stL.wide (stL.keep HR2.out fun b h1=>hb2.block b h1) fun b h1=>qAa h1 hb2.size
 rw[hG]
 have hGV:=HK3.out.lt
 clear hV3 hG hBV3
 have HV:Hid (∀v,Below V3.heap.size V3 v→Below W.heap.size W v):=fun v hb=>HB3.out.trans (hb.mono HB3.out.size)
 have HS7:Hid (∀v,Below V3.heap.size V3 v→v.cell? ⟨w.heap.size,0,none⟩=some (.slice A0 n0 c0)∧v.cell? ⟨w.heap.size,1,none⟩=some (.slice A1 n1 c1)∧v.cell? ⟨w.heap.size,2,none⟩=some (.slice A2 n2 c2)∧v.cell? ⟨w.heap.size,3,none⟩=some (.slice A3 n3 c3)∧v.cell? ⟨w.heap.size,4,none⟩=some (.slice A4 n4 cm)∧v.cell? ⟨G,0,none⟩=some (.slice F 1 cf)∧v.cell? ⟨G,1,none⟩=some (.slice O 0 co)∧v.cell? ⟨G,2,none⟩=some (.slice H 0 ch)∧v.cell? ⟨G,3,none⟩=some (.int .i64 q)∧v.cell? ⟨G,4,none⟩=some (.int .i64 0)∧v.cell? ⟨G,5,none⟩=some (.int .i64 0)∧v.cell? ⟨G,6,none⟩=some (.int .u64 0)):=fun v hb=>⟨(HCV.out v (HV.out v hb)).1,(HCV.out v (HV.out v hb)).2.1,(HCV.out v (HV.out v hb)).2.2.1,(HCV.out v (HV.out v hb)).2.2.2.1,(HCV.out v (HV.out v hb)).2.2.2.2,(qAX HK3.out hb hGV).cell 0,(qAX HK3.out hb hGV).cell 1,(qAX HK3.out hb hGV).cell 2,(qAX HK3.out hb hGV).cell 3,(qAX HK3.out hb hGV).cell 4,(qAX HK3.out hb hGV).cell 5,(qAX HK3.out hb hGV).cell 6⟩
 have STc:Hid (∀v F' cf' O' co' H' ch',Below V3.heap.size V3 v→stL.R (·<v.heap.size) v [.slice F' 1 cf',.slice O' 0 co',.slice H' 0 ch',.int .i64 q,.int .i64 0,.int .i64 0,.int .u64 0] (beginS fn.locs.length q)→Calls Tryz.prog 10 #[.agg #[.slice F 1 cf,.slice O 0 co,.slice H 0 ch,.int .i64 q,.int .i64 0,.int .i64 0,.int .u64 0],.agg #[.slice F' 1 cf',.slice O' 0 co',.slice H' 0 ch',.int .i64 q,.int .i64 0,.int .i64 0,.int .u64 0]] v (Tells true v)):=fun v F' cf' O' co' H' ch' hb h=>by
  have:=qDf _ _ _ _ v (HSS.out v hb) h HLow.out HLow.out
  rwa [qB4] at this
 obtain⟨z0,z1,z2,z3,z4⟩:=HCV.out V3 HB3.out
 go_upto_region 6 with(first
  |(go_at_call 9
    refine(RM1.out _ (HBB.out _ HB3.out)).mono ?_
    rintro e w4 ⟨rfl,hb_w4⟩
    have HB4:=qAU (HB3.out.trans (hb_w4.mono HB3.out.size))
    have HW4:=qAU hb_w4
    obtain⟨y0,y1,y2,y3,y4⟩:=HCV.out w4 HB4.out
    clear z0 z1 z2 z3 z4
    clear hb_w4))
 go_wp2_with fail
 refine(MA1.out w4 (HBB.out _ HB4.out)).mono ?_
 rintro e w5 ⟨hb5,hcase⟩
 have HW5:=qAU (HW4.out.trans (hb5.mono HW4.out.size))
 clear hb5 y0 y1 y2 y3 y4
 rcases hcase with⟨hN,rfl⟩|⟨L,A,c,hL,rfl,hml⟩
 · clear hN
   go_upto_region 7 with(fail)
   go_wp2_with fail
   refine wp_region_held_drew (S:=fun v=>v.cell? ⟨w.heap.size,0,none⟩=some (.slice A0 n0 c0)∧v.cell? ⟨w.heap.size,1,none⟩=some (.slice A1 n1 c1)∧v.cell? ⟨w.heap.size,2,none⟩=some (.slice A2 n2 c2)∧v.cell? ⟨w.heap.size,3,none⟩=some (.slice A3 n3 c3)∧v.cell? ⟨w.heap.size,4,none⟩=some (.slice A4 n4 cm)∧v.cell? ⟨G,0,none⟩=some (.slice F 1 cf)∧v.cell? ⟨G,1,none⟩=some (.slice O 0 co)∧v.cell? ⟨G,2,none⟩=some (.slice H 0 ch)∧v.cell? ⟨G,3,none⟩=some (.int .i64 q)∧v.cell? ⟨G,4,none⟩=some (.int .i64 0)∧v.cell? ⟨G,5,none⟩=some (.int .i64 0)∧v.cell? ⟨G,6,none⟩=some (.int .u64 0)) qQ (HS7.out _ HW5.out.drew) (fun hHeld=> ?_)
   refine wpAnyH_ready (rs:=[0]) qQ (by simp) ?_
   refine AllReadyH.cons (o:={dst:=some 45,op:=Op.call {callee:=Callee.value (Operand.func 7),args:= #[],argTypes:= #[]},type:=4,pos:="law.go:29",after:= #[],guard:=none}) rfl (fun K hK=> ?_) AllReadyH.nil
   go_simp
   go_at_call 7
   refine(AN.out _).mono ?_
   rintro e w6 ⟨rfl,hb6⟩
   have HB6:Hid (Below V3.heap.size V3 w6):=HW5.out.drew.trans (hb6.mono HW5.out.size)
   clear hb6
   try dsimp only
   refine hK.out _ _ (HS7.out _ HB6.out) (fun hHeld=> ?_)
   clear hK K
   try simp only[Go.Act.put,List.setIfInBounds_toArray,List.set_cons_zero,List.set_cons_succ]
   refine wpAnyH_take (i:=1) (oi:={dst:=some 46,op:=Op.move (Operand.tmp 45),type:=4,pos:="law.go:29",after:= #[{on:=0,ground:=Ground.data},{on:=0,ground:=Ground.chain}],guard:=none}) (v:= ?_) rfl qQ qQ qQ (fun _ _ _ h=>h) (Or.inl ⟨by rfl,?_⟩) jH ?_
   rotate_left
   · exact qb
   try simp only[Go.Act.put,List.setIfInBounds_toArray,List.set_cons_zero,List.set_cons_succ]
   refine wpAnyH_take (i:=2) (oi:={dst:=some 47,op:=Op.move (Operand.tmp 6),type:=37,pos:="law.go:29",after:= #[{on:=1,ground:=Ground.guard}],guard:=some (1,true)}) (v:= ?_) rfl qQ qQ qQ (fun _ _ _ h=>h) (Or.inl ⟨by rfl,?_⟩) jH ?_
   rotate_left
   · exact qb
   try simp only[Go.Act.put,List.setIfInBounds_toArray,List.set_cons_zero,List.set_cons_succ]
   refine wpAnyH_take (i:=3) (oi:={dst:=some 48,op:=Op.binOp BinOp.eql 37 (Operand.tmp 47) (Operand.const (Value.int IntKind.i64 0)) 37,type:=4,pos:="law.go:29",after:= #[{on:=2,ground:=Ground.data},{on:=1,ground:=Ground.guard}],guard:=some (1,true)}) (v:= ?_) rfl qQ qQ qQ (fun _ _ _ h=>h) (Or.inl ⟨by rfl,?_⟩) jH ?_
   rotate_left
   · exact qb
   try simp only[Go.Act.put,List.setIfInBounds_toArray,List.set_cons_zero,List.set_cons_succ]
   refine wpAnyH_take (i:=4) (oi:={dst:=some 49,op:=Op.pick (Operand.tmp 46) (Operand.tmp 48) (Operand.const (Value.bool false)),type:=4,pos:="law.go:29",after:= #[{on:=1,ground:=Ground.data},{on:=3,ground:=Ground.data}],guard:=none}) (v:= ?_) rfl qQ qQ qQ (fun _ _ _ h=>h) (Or.inl ⟨by rfl,?_⟩) jH ?_
   rotate_left
   · exact qb
   try simp only[Go.Act.put,List.setIfInBounds_toArray,List.set_cons_zero,List.set_cons_succ]
   refine wpAnyH_take (i:=5) (oi:={dst:=some 50,op:=Op.move (Operand.tmp 49),type:=4,pos:="law.go:29",after:= #[{on:=4,ground:=Ground.data},{on:=1,ground:=Ground.chain}],guard:=none}) (v:= ?_) rfl qQ qQ qQ (fun _ _ _ h=>h) (Or.inl ⟨by rfl,?_⟩) jH ?_
   rotate_left
   · exact qb
   try simp only[Go.Act.put,List.setIfInBounds_toArray,List.set_cons_zero,List.set_cons_succ]
   refine wpAnyH_take (i:=6) (oi:={dst:=some 51,op:=Op.load 36 (Operand.tmp 5),type:=36,pos:="law.go:29",after:= #[{on:=5,ground:=Ground.guard}],guard:=some (5,true)}) (v:= ?_) rfl qQ qQ qQ (fun _ _ _ h=>h) (Or.inl ⟨by rfl,?_⟩) jH ?_
   rotate_left
   · exact qb
   try simp only[Go.Act.put,List.setIfInBounds_toArray,List.set_cons_zero,List.set_cons_succ]
   refine wpAnyH_take (i:=7) (oi:={dst:=some 52,op:=Op.load 28 (Operand.tmp 2),type:=28,pos:="law.go:29",after:= #[{on:=5,ground:=Ground.guard}],guard:=some (5,true)}) (v:= ?_) rfl qQ qQ qQ (fun _ _ _ h=>h) (Or.inl ⟨by rfl,?_⟩) jH ?_
   rotate_left
   · exact qb
   try simp only[Go.Act.put,List.setIfInBounds_toArray,List.set_cons_zero,List.set_cons_succ]
   refine wpAnyH_take (i:=8) (oi:={dst:=some 53,op:=Op.move (Operand.tmp 1),type:=3,pos:="law.go:29",after:= #[{on:=5,ground:=Ground.guard}],guard:=some (5,true)}) (v:= ?_) rfl qQ qQ qQ (fun _ _ _ h=>h) (Or.inl ⟨by rfl,?_⟩) jH ?_
   rotate_left
   · exact qb
   try simp only[Go.Act.put,List.setIfInBounds_toArray,List.set_cons_zero,List.set_cons_succ]
   refine wpAnyH_ready (rs:=[9]) qQ (by simp) ?_
   refine AllReadyH.cons (o:={dst:=some 54,op:=Op.call {callee:=Callee.value (Operand.func 12),args:= #[Operand.tmp 52,Operand.tmp 53],argTypes:= #[28,3]},type:=36,pos:="law.go:29",after:= #[{on:=7,ground:=Ground.data},{on:=8,ground:=Ground.data},{on:=5,ground:=Ground.chain},{on:=5,ground:=Ground.guard}],guard:=some (5,true)}) rfl (fun K hK=> ?_) AllReadyH.nil
   go_simp
   go_at_call 12
   refine(RB1.out _ (HBB.out _ (HV.out _ HB6.out))).mono ?_
   rintro e w7 ⟨cs',rfl,hR7,hb7⟩
   obtain⟨F',cf',O',co',H',ch',ecs,-⟩:=qBT hR7
   have ecs':cs'=[.slice F' 1 cf',.slice O' 0 co',.slice H' 0 ch',.int .i64 q,.int .i64 0,.int .i64 0,.int .u64 0]:=ecs
   subst ecs'
   have HB7:Hid (Below V3.heap.size V3 w7):=HB6.out.trans (hb7.mono HB6.out.size)
   have E7:=qAU (STc.out w7 _ _ _ _ _ _ HB7.out hR7)
   clear hb7 hR7 ecs
   try dsimp only
   refine hK.out _ _ (HS7.out _ HB7.out) (fun hHeld=> ?_)
   clear hK K
   try simp only[Go.Act.put,List.setIfInBounds_toArray,List.set_cons_zero,List.set_cons_succ]
   refine wpAnyH_ready (rs:=[10]) qQ (by simp) ?_
   refine AllReadyH.cons (o:={dst:=some 55,op:=Op.call {callee:=Callee.value (Operand.func 10),args:= #[Operand.tmp 51,Operand.tmp 54],argTypes:= #[36,36]},type:=4,pos:="law.go:29",after:= #[{on:=6,ground:=Ground.data},{on:=9,ground:=Ground.data},{on:=9,ground:=Ground.chain},{on:=5,ground:=Ground.guard}],guard:=some (5,true)}) rfl (fun K hK=> ?_) AllReadyH.nil
   go_simp
   go_at_call 10
   (with_reducible refine E7.out.mono ?_)
   rintro e w8 ⟨rfl,hb8⟩
   have HB8:Hid (Below V3.heap.size V3 w8):=HB7.out.trans (hb8.mono HB7.out.size)
   clear hb8
   try dsimp only
   refine hK.out _ _ (HS7.out _ HB8.out) (fun hHeld=> ?_)
   clear hK K
   try simp only[Go.Act.put,List.setIfInBounds_toArray,List.set_cons_zero,List.set_cons_succ]
   refine wpAnyH_take (i:=11) (oi:={dst:=some 56,op:=Op.pick (Operand.tmp 50) (Operand.tmp 55) (Operand.const (Value.bool false)),type:=4,pos:="law.go:29",after:= #[{on:=5,ground:=Ground.data},{on:=10,ground:=Ground.data}],guard:=none}) (v:= ?_) rfl qQ qQ qQ (fun _ _ _ h=>h) (Or.inl ⟨by rfl,?_⟩) jH ?_
   rotate_left
   · exact qb
   try simp only[Go.Act.put,List.setIfInBounds_toArray,List.set_cons_zero,List.set_cons_succ]
   refine wpAnyH_take (i:=12) (oi:={dst:=some 57,op:=Op.move (Operand.tmp 56),type:=4,pos:="law.go:29",after:= #[{on:=11,ground:=Ground.data},{on:=10,ground:=Ground.chain}],guard:=none}) (v:= ?_) rfl qQ qQ qQ (fun _ _ _ h=>h) (Or.inl ⟨by rfl,?_⟩) jH ?_
   rotate_left
   · exact qb
   try simp only[Go.Act.put,List.setIfInBounds_toArray,List.set_cons_zero,List.set_cons_succ]
   refine wpAnyH_take (i:=13) (oi:={dst:=some 58,op:=Op.move (Operand.tmp 8),type:=4,pos:="law.go:29",after:= #[{on:=12,ground:=Ground.guard}],guard:=some (12,true)}) (v:= ?_) rfl qQ qQ qQ (fun _ _ _ h=>h) (Or.inl ⟨by rfl,?_⟩) jH ?_
   rotate_left
   · exact qb
   try simp only[Go.Act.put,List.setIfInBounds_toArray,List.set_cons_zero,List.set_cons_succ]
   refine wpAnyH_take (i:=14) (oi:={dst:=some 59,op:=Op.unOp UnOp.not 4 (Operand.tmp 58),type:=4,pos:="law.go:29",after:= #[{on:=13,ground:=Ground.data},{on:=12,ground:=Ground.guard}],guard:=some (12,true)}) (v:= ?_) rfl qQ qQ qQ (fun _ _ _ h=>h) (Or.inl ⟨by rfl,?_⟩) jH ?_
   rotate_left
   · exact qb
   try simp only[Go.Act.put,List.setIfInBounds_toArray,List.set_cons_zero,List.set_cons_succ]
   refine wpAnyH_take (i:=15) (oi:={dst:=some 60,op:=Op.move (Operand.tmp 59),type:=4,pos:="law.go:29",after:= #[{on:=14,ground:=Ground.data},{on:=12,ground:=Ground.chain},{on:=12,ground:=Ground.guard}],guard:=some (12,true)}) (v:= ?_) rfl qQ qQ qQ (fun _ _ _ h=>h) (Or.inl ⟨by rfl,?_⟩) jH ?_
   rotate_left
   · exact qb
   try simp only[Go.Act.put,List.setIfInBounds_toArray,List.set_cons_zero,List.set_cons_succ]
   refine wpAnyH_take (i:=16) (oi:={dst:=some 61,op:=Op.load 28 (Operand.tmp 2),type:=28,pos:="law.go:29",after:= #[{on:=15,ground:=Ground.guard}],guard:=some (15,false)}) (v:=undef) rfl qQ qQ qQ (fun _ _ _ h=>h) (Or.inr ⟨by rfl,rfl⟩) jH ?_
   try simp only[Go.Act.put,List.setIfInBounds_toArray,List.set_cons_zero,List.set_cons_succ]
   refine wpAnyH_take (i:=17) (oi:={dst:=some 62,op:=Op.move (Operand.tmp 7),type:=41,pos:="law.go:29",after:= #[{on:=15,ground:=Ground.guard}],guard:=some (15,false)}) (v:=undef) rfl qQ qQ qQ (fun _ _ _ h=>h) (Or.inr ⟨by rfl,rfl⟩) jH ?_
   try simp only[Go.Act.put,List.setIfInBounds_toArray,List.set_cons_zero,List.set_cons_succ]
   refine wpAnyH_take (i:=18) (oi:={dst:=some 63,op:=Op.load 36 (Operand.tmp 5),type:=36,pos:="law.go:29",after:= #[{on:=15,ground:=Ground.guard}],guard:=some (15,false)}) (v:=undef) rfl qQ qQ qQ (fun _ _ _ h=>h) (Or.inr ⟨by rfl,rfl⟩) jH ?_
   try simp only[Go.Act.put,List.setIfInBounds_toArray,List.set_cons_zero,List.set_cons_succ]
   refine wpAnyH_take (i:=19) (oi:={dst:=some 64,op:=Op.call {callee:=Callee.value (Operand.func 13),args:= #[Operand.tmp 61,Operand.tmp 62,Operand.tmp 63],argTypes:= #[28,41,36]},type:=4,pos:="law.go:29",after:= #[{on:=16,ground:=Ground.data},{on:=17,ground:=Ground.data},{on:=18,ground:=Ground.data},{on:=15,ground:=Ground.chain},{on:=15,ground:=Ground.guard}],guard:=some (15,false)}) (v:=undef) rfl qQ qQ qQ (fun _ _ _ h=>h) (Or.inr ⟨by rfl,rfl⟩) jH ?_
   try simp only[Go.Act.put,List.setIfInBounds_toArray,List.set_cons_zero,List.set_cons_succ]
   refine wpAnyH_take (i:=20) (oi:={dst:=some 65,op:=Op.pick (Operand.tmp 60) (Operand.const (Value.bool true)) (Operand.tmp 64),type:=4,pos:="law.go:29",after:= #[{on:=15,ground:=Ground.data},{on:=19,ground:=Ground.data},{on:=12,ground:=Ground.guard}],guard:=some (12,true)}) (v:= ?_) rfl qQ qQ qQ (fun _ _ _ h=>h) (Or.inl ⟨by rfl,?_⟩) jH ?_
   rotate_left
   · exact qb
   try simp only[Go.Act.put,List.setIfInBounds_toArray,List.set_cons_zero,List.set_cons_succ]
   refine wpAnyH_take (i:=21) (oi:={dst:=some 66,op:=Op.pick (Operand.tmp 57) (Operand.tmp 65) (Operand.const (Value.bool false)),type:=4,pos:="law.go:29",after:= #[{on:=12,ground:=Ground.data},{on:=20,ground:=Ground.data}],guard:=none}) (v:= ?_) rfl qQ qQ qQ (fun _ _ _ h=>h) (Or.inl ⟨by rfl,?_⟩) jH ?_
   rotate_left
   · exact qb
   try simp only[Go.Act.put,List.setIfInBounds_toArray,List.set_cons_zero,List.set_cons_succ]
   refine wpAnyH_take (i:=22) (oi:={dst:=some 4,op:=Op.assign (Operand.tmp 66),type:=4,pos:="law.go:29",after:= #[{on:=21,ground:=Ground.data},{on:=19,ground:=Ground.chain},{on:=0,ground:=Ground.phase},{on:=1,ground:=Ground.phase},{on:=2,ground:=Ground.phase},{on:=3,ground:=Ground.phase},{on:=4,ground:=Ground.phase},{on:=5,ground:=Ground.phase},{on:=6,ground:=Ground.phase},{on:=7,ground:=Ground.phase},{on:=8,ground:=Ground.phase},{on:=9,ground:=Ground.phase},{on:=10,ground:=Ground.phase},{on:=11,ground:=Ground.phase},{on:=12,ground:=Ground.phase},{on:=13,ground:=Ground.phase},{on:=14,ground:=Ground.phase},{on:=15,ground:=Ground.phase},{on:=16,ground:=Ground.phase},{on:=17,ground:=Ground.phase},{on:=18,ground:=Ground.phase},{on:=19,ground:=Ground.phase},{on:=20,ground:=Ground.phase},{on:=21,ground:=Ground.phase}],guard:=none}) (v:= ?_) rfl qQ qQ qQ (fun _ _ _ h=>h) (Or.inl ⟨by rfl,?_⟩) jH ?_
   rotate_left
   · exact qb
   try simp only[Go.Act.put,List.setIfInBounds_toArray,List.set_cons_zero,List.set_cons_succ]
   refine wpAnyH_done qQ ?_ _
   clear hHeld
   go_wp2_with fail
   go_ret
   exact⟨rfl,HBB.out _ (HV.out _ HB8.out)⟩
 have HLr:=qAU hL.right
 obtain⟨A',c',e1,hle,hcm,hsq⟩:=hml
 simp only[List.cons.injEq,Value.slice.injEq,and_true,true_and] at e1
 obtain⟨rfl,rfl⟩:=e1
 obtain⟨nL,hnL⟩:∃nL,L.length=nL:=⟨_,rfl⟩
 have E9:Hid (∀v,Below V3.heap.size V3 v→Below w5.heap.size w5 v→Calls Tryz.prog 13 #[.agg #[.slice A0 n0 c0,.slice A1 n1 c1,.slice A2 n2 c2,.slice A3 n3 c3,.slice A4 n4 cm],.slice A nL c,.agg #[.slice F 1 cf,.slice O 0 co,.slice H 0 ch,.int .i64 q,.int .i64 0,.int .i64 0,.int .u64 0]] v (Tells true v)):=fun v hb hb5=>by
  have:=TYc.out v [.slice F 1 cf,.slice O 0 co,.slice H 0 ch,.int .i64 q,.int .i64 0,.int .i64 0,.int .u64 0] (beginS fn.locs.length q) A nL c L (HBB.out _ (HV.out _ hb)) (HSS.out v hb) hnL (qBM hsq hb5) (by unfold maxLen at hcm;omega) HMb.out HLr.out (qGP HMb.out HLr.out HF.out HQ0.out)
  simpa[vAgg] using this
 rw[hnL]
 clear hL hle hcm hsq hnL
 go_upto_region 7 with(fail)
 first
 |(go_region_held3 (fun v=>v.cell? ⟨w.heap.size,0,none⟩=some (.slice A0 n0 c0)∧v.cell? ⟨w.heap.size,1,none⟩=some (.slice A1 n1 c1)∧v.cell? ⟨w.heap.size,2,none⟩=some (.slice A2 n2 c2)∧v.cell? ⟨w.heap.size,3,none⟩=some (.slice A3 n3 c3)∧v.cell? ⟨w.heap.size,4,none⟩=some (.slice A4 n4 cm)∧v.cell? ⟨G,0,none⟩=some (.slice F 1 cf)∧v.cell? ⟨G,1,none⟩=some (.slice O 0 co)∧v.cell? ⟨G,2,none⟩=some (.slice H 0 ch)∧v.cell? ⟨G,3,none⟩=some (.int .i64 q)∧v.cell? ⟨G,4,none⟩=some (.int .i64 0)∧v.cell? ⟨G,5,none⟩=some (.int .i64 0)∧v.cell? ⟨G,6,none⟩=some (.int .u64 0))
    (first|exact HS7.out _ HW5.out.drew|(have hz:=HB6.out;clear hz;first|exact HS7.out _ HB9.out|exact HS7.out _ HB8.out|exact HS7.out _ HB7.out|exact HS7.out _ HB6.out))
    (first
    |(go_at_call 7
      refine(AN.out _).mono ?_
      rintro e w6 ⟨rfl,hb6⟩
      have HB6:Hid (Below V3.heap.size V3 w6):=HW5.out.drew.trans (hb6.mono HW5.out.size)
      have HB56:Hid (Below w5.heap.size w5 w6):=(qAb _ w5).drew.trans hb6
      clear hb6)
    |(go_at_call 12
      refine(RB1.out _ (HBB.out _ (HV.out _ HB6.out))).mono ?_
      rintro e w7 ⟨cs',rfl,hR7,hb7⟩
      obtain⟨F',cf',O',co',H',ch',ecs,-⟩:=qBT hR7
      have ecs':cs'=[.slice F' 1 cf',.slice O' 0 co',.slice H' 0 ch',.int .i64 q,.int .i64 0,.int .i64 0,.int .u64 0]:=ecs
      subst ecs'
      have HB7:Hid (Below V3.heap.size V3 w7):=HB6.out.trans (hb7.mono HB6.out.size)
      have HB57:Hid (Below w5.heap.size w5 w7):=HB56.out.trans (hb7.mono HB56.out.size)
      have E7:=qAU (STc.out w7 _ _ _ _ _ _ HB7.out hR7)
      clear hb7 hR7 ecs)
    |(go_at_call 10
      (with_reducible refine E7.out.mono ?_)
      rintro e w8 ⟨rfl,hb8⟩
      have HB8:Hid (Below V3.heap.size V3 w8):=HB7.out.trans (hb8.mono HB7.out.size)
      have HB58:Hid (Below w5.heap.size w5 w8):=HB57.out.trans (hb8.mono HB57.out.size)
      clear hb8)
    |(go_at_call 13
      refine(E9.out w8 HB8.out HB58.out).mono ?_
      rintro e w9 ⟨rfl,hb9⟩
      have HB9:Hid (Below V3.heap.size V3 w9):=HB8.out.trans (hb9.mono HB8.out.size)
      clear hb9)))
 |fail
 go_wp2_with fail
 go_ret
 exact⟨rfl,HBB.out _ (HV.out _ HB9.out)⟩
set_option maxRecDepth 100000 in
theorem lifted (os:Os) (started:os.Started) (H:Type) (enc:TypeId×Value→H):
 ReturnsInHanded {} Tryz.checked os 3 .any (Rows.stateBeginsSpec.pre6 enc Tryz.prog Tryz.f3 Rows.stateBeginsRow.domain false) (Rows.stateBeginsSpec.post enc Tryz.prog Tryz.f3 false true false false):=by
 refine returnsInHanded_of_change_sized (C:=Tryz.checked) own started qQ Tryz.func3
  (ChangeSpec.witness6 (enc:=enc) (C:=Tryz.checked) false ⟨#[],#[.agg #[.slice none 0 0,.slice none 0 0,.slice none 0 0,.slice none 0 0,.slice none 0 0],.int .i64 0],[]⟩ 8 qQ qQ qQ qQ) ?_
 intro W base args ds gs before hval0 hW hcnd hwz _
 have hval:∀(j:Nat) t v,Tryz.f3.params[j]? =some t→args[j]? =some v→Value.okWide Tryz.prog W .any base t v:=hval0
 have hW':=hW
 obtain⟨p,q,hA0,hV,rfl,hfz,hnd⟩:=hW
 have hA:DataW.TrodAll enc Tryz.prog W 0 (fun _=>true) true Tryz.f3.params.toList args.toList ds p:=hA0
 rw[Tryz.params3] at hA hval
 obtain⟨v0,vs0,d0,ds0,p0,q0,hargs,rfl,rfl,h0,r0⟩:=trodAll_cons hA
 obtain⟨v1,vs1,d1,ds1,p1,q1,rfl,rfl,rfl,h1,r1⟩:=trodAll_cons r0
 obtain⟨rfl,rfl,rfl⟩:=trodAll_nil r1
 obtain rfl:args= #[v0,v1]:=by cases args;simp_all
 obtain⟨rfl,rfl⟩:=trodVars_none hV
 have lt0:∀x∈p0,x.block<W.heap.size:=by obtain⟨m,hm⟩:=h0;exact DataW.trod_lt m _ _ _ hm
 have hwz0:∀n∈d0.weights Tryz.prog 28,n≤reachBytes:=fun n hn=>by simpa using List.all_eq_true.1 hwz n (DataW.weights_mem_each (j:=0) (t:=28) (d:=d0) (by first|rfl|kernel_rfl) rfl n hn)
 obtain⟨cs0,m0,rfl,hm0,hz0⟩:=qEn h0 hwz0
 obtain⟨a1,rfl,rfl,rfl,w1⟩:=open_int Tryz.underlying3 (hval 1 3 v1 rfl rfl) h1
 clear hA0 hval0
 refine(walk cs0 m0 a1 W hm0 hz0 (qCp w1)).mono fun e W' ⟨he,bel⟩=> ?_
 subst he
 exact⟨_,rfl,_,_,_,[],_,[],hW',trodAll_mk1 (shut_bool Tryz.underlying4 _),(trodAll_cons_mk (Below.trod qFI qQ (of_decide_eq_true qQ) h0 bel lt0) (trodAll_cons_mk (shut_int Tryz.underlying3 w1) trodAll_mk0)),rfl,bel.frame _,fun h=>by cases h⟩
theorem over:Rows.stateBeginsRow.holds Tryz.pinned (OpenSpec.ofChange Rows.stateBeginsSpec):=
 OpenClaim.holds_of_wide 3 Tryz.f3 rfl rfl rfl rfl rfl rfl rfl ⟨rfl,rfl,rfl,rfl,rfl⟩ rfl rfl rfl rfl rfl qQ Tryz.func3 qQ
  (of_decide_eq_true qQ) (by unfold Func.isWrapper;first|(rw[if_pos jb];kernel_rfl)|(rw[if_neg jb];exact⟨rfl,rfl⟩))
  (fun os started H enc _=>lifted os started H enc)
/-- The statement. -/
theorem proved:Rows.StateBeginsSaid:=over
end Go.Proofs.YtconajaecpgjgaaGreat.stateBegins
