/-
  The law StateCopies holds: a copy is the same, and its own; which states are the same; the law's function returns true and turns nothing that was there.
  Conditions: none.
-/
import Derived.Test.YtconajaecpgjgaaQ01
import Derived.Test.YtconajaecpgjgaaQ04
import Derived.Test.YtconajaecpgjgaaQ05
import Derived.Test.YtconajaecpgjgaaQ12
import Derived.Test.YtconajaecpgjgaaQ13
import Derived.Test.YtconajaecpgjgaaQ14
import Derived.Lib.QuietBelow
import Derived.BigQuiet
import Derived.Deep.DeepCutAuto
namespace Go.Proofs.Ytconajaecpgjgaa.stateCopies
open Go.ChangeShapes Go.WideShapes Go.ChangeAt Go.RowKit
set_option linter.unusedVariables false
set_option linter.unusedSimpArgs false
theorem st_shape {S:Nat→Prop} {w:World} {cs:List Value} {s:Stt} (h:stL.R S w cs s):∃F nf cf O no co H nh ch,cs=[.slice F nf cf,.slice O no co,.slice H nh ch,.int .i64 s.quota,.int .i64 s.used,.int .i64 s.fin,.int .u64 (s.val:Int)]:=by
 obtain⟨F,cf,O,co,H,ch,rfl,-⟩:=zu h
 exact⟨_,_,_,_,_,_,_,_,_,rfl⟩
theorem held_of {s:Stt} (h:Zs s):s.held:=by
 have hr:reachBytes≤1000000000000000:=by unfold reachBytes;omega
 obtain⟨h1,h2,h3⟩:=h
 exact⟨zp h1.1 hr,zp h2.1 hr,zp h3.1 hr,fun f hf=>⟨zp (h1.2 f hf).1 hr,zp (h1.2 f hf).2 hr⟩,fun o ho=>⟨zp (h2.2 o ho).1 hr,zp (h2.2 o ho).2 hr⟩⟩
theorem z9 (a:Stt):eqB a a=true:=by simp[eqB]
theorem st_low {w X:World} {cs:List Value} {s:Stt} (h:stL.R (·<w.heap.size) w cs s) (hb:Below w.heap.size w X):stL.R (·<X.heap.size) X cs s:=stL.wide (stL.keep h fun b h1=>hb.block b h1) fun b h1=>zP h1 hb.size
theorem new_cell {M:Nat} {U w:World} {p:Addr} (h:New M U p.block) (ht:Tw M U w):w.frozen? p=false:=(ht.froz p).trans (h.2.2 p.off)
theorem byt_cell {S:Nat→Prop} {w:World} {A:Option Addr} {xs:List Nat} (h:Byt S w A xs) {k x:Nat} (hk:xs[k]? =some x):∃a,A=some a∧S a.block∧∃y:Int,w.cell? (a.add k)=some (.int .u8 y):=by
 obtain⟨hl,-⟩:=zR.1 hk
 obtain⟨a,e,hs,hc⟩:=h.at hl
 exact⟨a,e,hs,_,hc⟩
theorem num_cell {S:Nat→Prop} {w:World} {A:Option Addr} {xs:List Nat} (h:Sq numL S w A xs) {k x:Nat} (hk:xs[k]? =some x):∃a,A=some a∧S a.block∧∃y:Int,w.cell? (a.add k)=some (.int .u64 y):=by
 obtain⟨a,e,hs,hc,-⟩:=qDE h hk
 exact⟨a,e,hs,_,hc⟩
set_option maxRecDepth 100000 in
set_option maxHeartbeats 8000000 in
theorem walk (ca:List Value) (a:Stt) (cb:List Value) (b:Stt) (w:World) (ha:stL.R (·<w.heap.size) w ca a) (hza:Zs a) (hb:stL.R (·<w.heap.size) w cb b) (hzb:Zs b):
 Calls Try.prog 3 #[vAgg ca,vAgg cb] w fun e w'=>e= .returned (.bool true)∧Below w.heap.size w w':=by
 have AN:=zL (fun w=>qC1 w)
 have HKA:=zL (held_of hza)
 have HKB:=zL (held_of hzb)
 obtain⟨Fa,nfa,cfa,Oa,noa,coa,Ha,nha,cha,rfl⟩:=st_shape ha
 obtain⟨Fb,nfb,cfb,Ob,nob,cob,Hb,nhb,chb,rfl⟩:=st_shape hb
 have CA:=zL (fun(X:World) (h:Below w.heap.size w X)=>st_low ha h)
 have CB:=zL (fun(X:World) (h:Below w.heap.size w X)=>st_low hb h)
 have SA:Hid (∀X,Below w.heap.size w X→Calls Try.prog 4 #[.agg #[.slice Fa nfa cfa,.slice Oa noa coa,.slice Ha nha cha,.int .i64 a.quota,.int .i64 a.used,.int .i64 a.fin,.int .u64 (a.val:Int)]] X fun e w'=>(e= .returned (.bool (smB a))∧(smB a=true→a.low))∧Below X.heap.size X w'):=fun X h=>qAt _ a X (CA.out X h) HKA.out
 have SB:Hid (∀X,Below w.heap.size w X→Calls Try.prog 4 #[.agg #[.slice Fb nfb cfb,.slice Ob nob cob,.slice Hb nhb chb,.int .i64 b.quota,.int .i64 b.used,.int .i64 b.fin,.int .u64 (b.val:Int)]] X fun e w'=>(e= .returned (.bool (smB b))∧(smB b=true→b.low))∧Below X.heap.size X w'):=fun X h=>qAt _ b X (CB.out X h) HKB.out
 clear ha hza hb hzb
 simp only[vAgg]
 show Calls Try.prog 3 #[.agg #[.slice Fa nfa cfa,.slice Oa noa coa,.slice Ha nha cha,.int .i64 a.quota,.int .i64 a.used,.int .i64 a.fin,.int .u64 (a.val:Int)],.agg #[.slice Fb nfb cfb,.slice Ob nob cob,.slice Hb nhb chb,.int .i64 b.quota,.int .i64 b.used,.int .i64 b.fin,.int .u64 (b.val:Int)]] w _
 go_enter Try.func3,Try.ntmps3
 go_upto_region 1 with(fail)
 refine zi fun W hW=> ?_
 have KA:Hid (Blk W w.heap.size 27 #[.slice Fa nfa cfa,.slice Oa noa coa,.slice Ha nha cha,.int .i64 a.quota,.int .i64 a.used,.int .i64 a.fin,.int .u64 (a.val:Int)]):=by show Blk _ _ _ _;rw[hW];repeat(first|(refine zl ?_;simp;done)|refine zc ?_)
 have KB:Hid (Blk W (w.heap.size+1) 27 #[.slice Fb nfb cfb,.slice Ob nob cob,.slice Hb nhb chb,.int .i64 b.quota,.int .i64 b.used,.int .i64 b.fin,.int .u64 (b.val:Int)]):=by show Blk _ _ _ _;rw[hW];repeat(first|(refine zl ?_;simp;done)|refine zc ?_)
 have HBW:Hid (Below w.heap.size w W):=by show Below _ _ _;rw[hW];exact((zS _ _).alloc (zQ _) _).alloc (by simp) _
 have hsW:w.heap.size+2≤W.heap.size:=by rw[hW];simp
 clear hW
 have x0:=KA.out.cell 0
 have x1:=KA.out.cell 1
 have x2:=KA.out.cell 2
 have x3:=KA.out.cell 3
 have x4:=KA.out.cell 4
 have x5:=KA.out.cell 5
 have x6:=KA.out.cell 6
 cases hsa:smB a
 · go_wp2_with (first|(go_at_call 4;(with_reducible refine(SA.out _ HBW.out).mono ?_);rintro e w1 ⟨⟨rfl,hlww1⟩,hbbw1⟩;have HLw1:=zL hlww1;have HBw1:Hid (Below w.heap.size w w1):=HBW.out.trans (hbbw1.mono HBW.out.size);have hszw1:=hbbw1.size;clear hlww1 hbbw1;rw[hsa])|(go_at_call 5;refine(AN.out _).mono ?_;rintro e w9 ⟨rfl,hb9⟩;have HB9:=zL (HBw1.out.trans (hb9.mono HBw1.out.size));clear hb9))
   go_ret
   exact⟨rfl,HB9.out⟩
 cases hsb:smB b
 · go_wp2_with (first|(go_at_call 4;(with_reducible refine(SA.out _ HBW.out).mono ?_);rintro e w1 ⟨⟨rfl,hlww1⟩,hbbw1⟩;have HLw1:=zL hlww1;have HBw1:Hid (Below w.heap.size w w1):=HBW.out.trans (hbbw1.mono HBW.out.size);have hszw1:=hbbw1.size;have KB1:Hid (Blk w1 (w.heap.size+1) 27 #[.slice Fb nfb cfb,.slice Ob nob cob,.slice Hb nhb chb,.int .i64 b.quota,.int .i64 b.used,.int .i64 b.fin,.int .u64 (b.val:Int)]):=zb KB.out hbbw1 (by omega);have y0:=KB1.out.cell 0;have y1:=KB1.out.cell 1;have y2:=KB1.out.cell 2;have y3:=KB1.out.cell 3;have y4:=KB1.out.cell 4;have y5:=KB1.out.cell 5;have y6:=KB1.out.cell 6;clear hlww1 hbbw1;rw[hsa])|(go_at_call 4;(with_reducible refine(SB.out _ HBw1.out).mono ?_);rintro e w2 ⟨⟨rfl,hlww2⟩,hbbw2⟩;have HLw2:=zL hlww2;have HBw2:Hid (Below w.heap.size w w2):=HBw1.out.trans (hbbw2.mono HBw1.out.size);have hszw2:=hbbw2.size;clear hlww2 hbbw2;rw[hsb])|(go_at_call 5;refine(AN.out _).mono ?_;rintro e w9 ⟨rfl,hb9⟩;have HB9:=zL (HBw2.out.trans (hb9.mono HBw2.out.size));clear hb9))
   go_ret
   exact⟨rfl,HB9.out⟩
 clear x0 x1 x2 x3 x4 x5 x6
 obtain⟨z0,z1,z2,z3,z4,z5,z6⟩:W.cell? ⟨w.heap.size,0,none⟩=some (.slice Fa nfa cfa)∧W.cell? ⟨w.heap.size,1,none⟩=some (.slice Oa noa coa)∧W.cell? ⟨w.heap.size,2,none⟩=some (.slice Ha nha cha)∧W.cell? ⟨w.heap.size,3,none⟩=some (.int .i64 a.quota)∧W.cell? ⟨w.heap.size,4,none⟩=some (.int .i64 a.used)∧W.cell? ⟨w.heap.size,5,none⟩=some (.int .i64 a.fin)∧W.cell? ⟨w.heap.size,6,none⟩=some (.int .u64 (a.val:Int)):=⟨KA.out.cell 0,KA.out.cell 1,KA.out.cell 2,KA.out.cell 3,KA.out.cell 4,KA.out.cell 5,KA.out.cell 6⟩
 have BK:Hid (∀X,Below W.heap.size W X→Blk X w.heap.size 27 #[.slice Fa nfa cfa,.slice Oa noa coa,.slice Ha nha cha,.int .i64 a.quota,.int .i64 a.used,.int .i64 a.fin,.int .u64 (a.val:Int)]∧Blk X (w.heap.size+1) 27 #[.slice Fb nfb cfb,.slice Ob nob cob,.slice Hb nhb chb,.int .i64 b.quota,.int .i64 b.used,.int .i64 b.fin,.int .u64 (b.val:Int)]):=fun X h=>⟨zb KA.out h (by omega),zb KB.out h (by omega)⟩
 go_upto_region 5 with(first
  |(go_at_call 4;(with_reducible refine(SA.out W HBW.out).mono ?_);rintro e w1 ⟨⟨rfl,hlo1⟩,hb1⟩;have HL1:=zL (hlo1 hsa);have HT1:=zL hb1;have HB1:Hid (Below w.heap.size w w1):=HBW.out.trans (hb1.mono HBW.out.size);have hs1:=hb1.size;obtain⟨-,kb1⟩:=BK.out w1 hb1;have y0:=kb1.cell 0;have y1:=kb1.cell 1;have y2:=kb1.cell 2;have y3:=kb1.cell 3;have y4:=kb1.cell 4;have y5:=kb1.cell 5;have y6:=kb1.cell 6;clear hlo1 hb1 kb1;rw[hsa])
  |(go_at_call 4;(with_reducible refine(SB.out w1 HB1.out).mono ?_);rintro e w2 ⟨⟨rfl,hlo2⟩,hb2⟩;have HL2:=zL (hlo2 hsb);have HT2:Hid (Below W.heap.size W w2):=HT1.out.trans (hb2.mono hs1);have HB2:Hid (Below w.heap.size w w2):=HB1.out.trans (hb2.mono HB1.out.size);have hs2:=HT2.out.size;obtain⟨ka2,-⟩:=BK.out w2 HT2.out;have u0:=ka2.cell 0;have u1:=ka2.cell 1;have u2:=ka2.cell 2;have u3:=ka2.cell 3;have u4:=ka2.cell 4;have u5:=ka2.cell 5;have u6:=ka2.cell 6;clear hlo2 hb2 ka2;rw[hsb])
  |(go_at_call 6;have RC:Calls Try.prog 6 #[.agg #[.slice Fa nfa cfa,.slice Oa noa coa,.slice Ha nha cha,.int .i64 a.quota,.int .i64 a.used,.int .i64 a.fin,.int .u64 (a.val:Int)]] w2 _:=qBv [.slice Fa nfa cfa,.slice Oa noa coa,.slice Ha nha cha,.int .i64 a.quota,.int .i64 a.used,.int .i64 a.fin,.int .u64 (a.val:Int)] a w2 (CA.out w2 HB2.out) HL1.out;(refine RC.mono ?_);clear RC;rintro e w3 ⟨cp,rfl,hp,hb3⟩;obtain⟨Fp,nfp,cfp,Op,nop,cop,Hp,nhp,chp,rfl⟩:=st_shape hp;have HP3:=zL hp;have HT3:Hid (Below W.heap.size W w3):=HT2.out.trans (hb3.mono hs2);have HB3:Hid (Below w.heap.size w w3):=HB2.out.trans (hb3.mono HB2.out.size);have hs3:=hb3.size;obtain⟨ka3,-⟩:=BK.out w3 HT3.out;have v0:=fun(ob:Obj)=>(zc (o:=ob) ka3).cell 0;have v1:=fun(ob:Obj)=>(zc (o:=ob) ka3).cell 1;have v2:=fun(ob:Obj)=>(zc (o:=ob) ka3).cell 2;have v3:=fun(ob:Obj)=>(zc (o:=ob) ka3).cell 3;have v4:=fun(ob:Obj)=>(zc (o:=ob) ka3).cell 4;have v5:=fun(ob:Obj)=>(zc (o:=ob) ka3).cell 5;have v6:=fun(ob:Obj)=>(zc (o:=ob) ka3).cell 6;clear hp hb3 ka3;simp only[vAgg])
  |(go_at_call 7;have RC:Calls Try.prog 7 #[.agg #[.slice Fa nfa cfa,.slice Oa noa coa,.slice Ha nha cha,.int .i64 a.quota,.int .i64 a.used,.int .i64 a.fin,.int .u64 (a.val:Int)]] (w3.alloc (.cells #[.slice Fp nfp cfp,.slice Op nop cop,.slice Hp nhp chp,.int .i64 a.quota,.int .i64 a.used,.int .i64 a.fin,.int .u64 (a.val:Int)] 27)) _:=qAO [.slice Fa nfa cfa,.slice Oa noa coa,.slice Ha nha cha,.int .i64 a.quota,.int .i64 a.used,.int .i64 a.fin,.int .u64 (a.val:Int)] a (w3.alloc (.cells #[.slice Fp nfp cfp,.slice Op nop cop,.slice Hp nhp chp,.int .i64 a.quota,.int .i64 a.used,.int .i64 a.fin,.int .u64 (a.val:Int)] 27)) (CA.out _ (HB3.out.alloc HB3.out.size _)) HL1.out;(refine RC.mono ?_);clear RC;rintro e w4 ⟨cc,rfl,hc,hb4⟩;obtain⟨Fc,nfc,cfc,Oc,noc,coc,Hc,nhc,chc,rfl⟩:=st_shape hc;have HC4:=zL hc;have HT4:=zL hb4;have hs4:=hb4.size;simp at hs4;clear hc hb4;simp only[vAgg]))
 refine zi fun V hV=> ?_
 have KP:Hid (Blk V w3.heap.size 27 #[.slice Fp nfp cfp,.slice Op nop cop,.slice Hp nhp chp,.int .i64 a.quota,.int .i64 a.used,.int .i64 a.fin,.int .u64 (a.val:Int)]):=by show Blk _ _ _ _;rw[hV];exact zc (zb (zl rfl) HT4.out (by simp))
 have KC:Hid (Blk V w4.heap.size 27 #[.slice Fc nfc cfc,.slice Oc noc coc,.slice Hc nhc chc,.int .i64 a.quota,.int .i64 a.used,.int .i64 a.fin,.int .u64 (a.val:Int)]):=by show Blk _ _ _ _;rw[hV];exact zl rfl
 have HB34:Hid (Below w3.heap.size w3 w4):=((zS w3.heap.size w3).alloc (zQ _) _).trans (HT4.out.mono (by simp))
 have HB3V:Hid (Below w3.heap.size w3 V):=by show Below _ _ _;rw[hV];exact HB34.out.alloc HB34.out.size _
 have HBV:Hid (Below w.heap.size w V):=HB3.out.trans (HB3V.out.mono HB3.out.size)
 have HPV:Hid (stL.R (fun x=>w2.heap.size≤x∧x<w3.heap.size) V [.slice Fp nfp cfp,.slice Op nop cop,.slice Hp nhp chp,.int .i64 a.quota,.int .i64 a.used,.int .i64 a.fin,.int .u64 (a.val:Int)] a):=stL.keep HP3.out fun x hx=>HB3V.out.block x hx.2
 have HCV:Hid (stL.R (New (w3.heap.size+1) V) V [.slice Fc nfc cfc,.slice Oc noc coc,.slice Hc nhc chc,.int .i64 a.quota,.int .i64 a.used,.int .i64 a.fin,.int .u64 (a.val:Int)] a):=by
  have h5:=stL.keep (w':=V) HC4.out fun x hx=>(by rw[hV];exact zd _ _ _ hx.2.1)
  exact stL.wide h5 fun x hx=>(by have:=hx.keep (w':=V) (by rw[hV];exact zd _ _ _ hx.2.1) (by rw[hV];simp);simpa using this)
 have hsV:V.heap.size=w4.heap.size+1:=by rw[hV];simp
 obtain⟨ka,kb⟩:=BK.out V (HT3.out.trans (HB3V.out.mono HT3.out.size))
 have KAV:=zL ka
 have KBV:=zL kb
 clear hV ka kb z0 z1 z2 z3 z4 z5 z6 y0 y1 y2 y3 y4 y5 y6 u0 u1 u2 u3 u4 u5 u6 v0 v1 v2 v3 v4 v5 v6
 have HCX:Hid (∀X,Below V.heap.size V X→stL.R (·<X.heap.size) X [.slice Fc nfc cfc,.slice Oc noc coc,.slice Hc nhc chc,.int .i64 a.quota,.int .i64 a.used,.int .i64 a.fin,.int .u64 (a.val:Int)] a):=fun X h=>stL.wide (stL.keep HCV.out fun x hx=>h.block x hx.2.1) fun x hx=>zP hx.2.1 h.size
 have HBX:Hid (∀X,Below V.heap.size V X→Below w.heap.size w X):=fun X h=>HBV.out.trans (h.mono HBV.out.size)
 have S1:Hid (∀X,Below V.heap.size V X→Calls Try.prog 8 #[.agg #[.slice Fa nfa cfa,.slice Oa noa coa,.slice Ha nha cha,.int .i64 a.quota,.int .i64 a.used,.int .i64 a.fin,.int .u64 (a.val:Int)],.agg #[.slice Fc nfc cfc,.slice Oc noc coc,.slice Hc nhc chc,.int .i64 a.quota,.int .i64 a.used,.int .i64 a.fin,.int .u64 (a.val:Int)]] X fun e w'=>e= .returned (.bool true)∧Below X.heap.size X w'):=fun X h=>by
  have:=ju [.slice Fa nfa cfa,.slice Oa noa coa,.slice Ha nha cha,.int .i64 a.quota,.int .i64 a.used,.int .i64 a.fin,.int .u64 (a.val:Int)] [.slice Fc nfc cfc,.slice Oc noc coc,.slice Hc nhc chc,.int .i64 a.quota,.int .i64 a.used,.int .i64 a.fin,.int .u64 (a.val:Int)] a a X (CA.out X (HBX.out X h)) (HCX.out X h)
  rw[z9] at this
  exact this
 have S2:Hid (∀X,Below V.heap.size V X→Calls Try.prog 9 #[.agg #[.slice Fa nfa cfa,.slice Oa noa coa,.slice Ha nha cha,.int .i64 a.quota,.int .i64 a.used,.int .i64 a.fin,.int .u64 (a.val:Int)],.agg #[.slice Fc nfc cfc,.slice Oc noc coc,.slice Hc nhc chc,.int .i64 a.quota,.int .i64 a.used,.int .i64 a.fin,.int .u64 (a.val:Int)]] X fun e w'=>e= .returned (.bool true)∧Below X.heap.size X w'):=fun X h=>by
  have:=ji [.slice Fa nfa cfa,.slice Oa noa coa,.slice Ha nha cha,.int .i64 a.quota,.int .i64 a.used,.int .i64 a.fin,.int .u64 (a.val:Int)] [.slice Fc nfc cfc,.slice Oc noc coc,.slice Hc nhc chc,.int .i64 a.quota,.int .i64 a.used,.int .i64 a.fin,.int .u64 (a.val:Int)] a a X (CA.out X (HBX.out X h)) (HCX.out X h) HL1.out HL1.out
  rw[z9] at this
  exact this
 obtain⟨g,eg⟩:∃g,eqB a b=g:=⟨_,rfl⟩
 have S3:Hid (∀X,Below V.heap.size V X→Calls Try.prog 8 #[.agg #[.slice Fa nfa cfa,.slice Oa noa coa,.slice Ha nha cha,.int .i64 a.quota,.int .i64 a.used,.int .i64 a.fin,.int .u64 (a.val:Int)],.agg #[.slice Fb nfb cfb,.slice Ob nob cob,.slice Hb nhb chb,.int .i64 b.quota,.int .i64 b.used,.int .i64 b.fin,.int .u64 (b.val:Int)]] X fun e w'=>e= .returned (.bool g)∧Below X.heap.size X w'):=fun X h=>by
  have:=ju [.slice Fa nfa cfa,.slice Oa noa coa,.slice Ha nha cha,.int .i64 a.quota,.int .i64 a.used,.int .i64 a.fin,.int .u64 (a.val:Int)] [.slice Fb nfb cfb,.slice Ob nob cob,.slice Hb nhb chb,.int .i64 b.quota,.int .i64 b.used,.int .i64 b.fin,.int .u64 (b.val:Int)] a b X (CA.out X (HBX.out X h)) (CB.out X (HBX.out X h))
  rw[eg] at this
  exact this
 have S4:Hid (∀X,Below V.heap.size V X→Calls Try.prog 9 #[.agg #[.slice Fa nfa cfa,.slice Oa noa coa,.slice Ha nha cha,.int .i64 a.quota,.int .i64 a.used,.int .i64 a.fin,.int .u64 (a.val:Int)],.agg #[.slice Fb nfb cfb,.slice Ob nob cob,.slice Hb nhb chb,.int .i64 b.quota,.int .i64 b.used,.int .i64 b.fin,.int .u64 (b.val:Int)]] X fun e w'=>e= .returned (.bool g)∧Below X.heap.size X w'):=fun X h=>by
  have:=ji [.slice Fa nfa cfa,.slice Oa noa coa,.slice Ha nha cha,.int .i64 a.quota,.int .i64 a.used,.int .i64 a.fin,.int .u64 (a.val:Int)] [.slice Fb nfb cfb,.slice Ob nob cob,.slice Hb nhb chb,.int .i64 b.quota,.int .i64 b.used,.int .i64 b.fin,.int .u64 (b.val:Int)] a b X (CA.out X (HBX.out X h)) (CB.out X (HBX.out X h)) HL1.out HL2.out
  rw[eg] at this
  exact this
 clear eg SA SB HKA HKB
 go_cut [45] (fun s45 wx=>s45= .bool false∧Below V.heap.size V wx)
 case first=>
  have a0:=cell_regrown (KAV.out.cell 0)
  have b0:=cell_regrown (KBV.out.cell 0)
  have c0:=cell_regrown (KC.out.cell 0)
  have a1:=cell_regrown (KAV.out.cell 1)
  have b1:=cell_regrown (KBV.out.cell 1)
  have c1:=cell_regrown (KC.out.cell 1)
  have a2:=cell_regrown (KAV.out.cell 2)
  have b2:=cell_regrown (KBV.out.cell 2)
  have c2:=cell_regrown (KC.out.cell 2)
  have a3:=cell_regrown (KAV.out.cell 3)
  have b3:=cell_regrown (KBV.out.cell 3)
  have c3:=cell_regrown (KC.out.cell 3)
  have a4:=cell_regrown (KAV.out.cell 4)
  have b4:=cell_regrown (KBV.out.cell 4)
  have c4:=cell_regrown (KC.out.cell 4)
  have a5:=cell_regrown (KAV.out.cell 5)
  have b5:=cell_regrown (KBV.out.cell 5)
  have c5:=cell_regrown (KC.out.cell 5)
  have a6:=cell_regrown (KAV.out.cell 6)
  have b6:=cell_regrown (KBV.out.cell 6)
  have c6:=cell_regrown (KC.out.cell 6)
  cases g
  all_goals
   go_wp2_with fail
   refine wp_region_quiet_below qD qD ?_
   repeat(quiet_step (first|with_reducible exact Calls.regrown_of (S1.out _ (below_regrown _ _ _))|with_reducible exact Calls.regrown_of (S2.out _ (below_regrown _ _ _))|with_reducible exact Calls.regrown_of (S3.out _ (below_regrown _ _ _))|with_reducible exact Calls.regrown_of (S4.out _ (below_regrown _ _ _))))
   refine wpQuiet_nil ?_
   intro _ hw'
   obtain⟨⟨dq,osq⟩,hw''⟩:=hw'
   subst hw''
   go_wp2_with fail
   go_meet
   exact⟨rfl,below_regrown _ _ _⟩
 case rest=>
  obtain⟨rfl,hbU⟩:=hcut
  obtain⟨U,eU⟩:∃U,U=wc:=⟨_,rfl⟩
  subst eU
  have HBU:Hid (Below w.heap.size w U):=HBX.out U hbU
  have KCU:Hid (Blk U w4.heap.size 27 #[.slice Fc nfc cfc,.slice Oc noc coc,.slice Hc nhc chc,.int .i64 a.quota,.int .i64 a.used,.int .i64 a.fin,.int .u64 (a.val:Int)]):=zb KC.out hbU (by omega)
  have KPU:Hid (Blk U w3.heap.size 27 #[.slice Fp nfp cfp,.slice Op nop cop,.slice Hp nhp chp,.int .i64 a.quota,.int .i64 a.used,.int .i64 a.fin,.int .u64 (a.val:Int)]):=zb KP.out hbU (by omega)
  have KAU:Hid (Blk U w.heap.size 27 #[.slice Fa nfa cfa,.slice Oa noa coa,.slice Ha nha cha,.int .i64 a.quota,.int .i64 a.used,.int .i64 a.fin,.int .u64 (a.val:Int)]):=zb KAV.out hbU (by omega)
  have HPU:Hid (stL.R (fun x=>x<w3.heap.size+1) U [.slice Fp nfp cfp,.slice Op nop cop,.slice Hp nhp chp,.int .i64 a.quota,.int .i64 a.used,.int .i64 a.fin,.int .u64 (a.val:Int)] a):=stL.wide (stL.keep HPV.out fun x hx=>hbU.block x (by omega)) fun x hx=>by omega
  have HCU:Hid (stL.R (New (w3.heap.size+1) U) U [.slice Fc nfc cfc,.slice Oc noc coc,.slice Hc nhc chc,.int .i64 a.quota,.int .i64 a.used,.int .i64 a.fin,.int .u64 (a.val:Int)] a):=stL.wide (stL.keep HCV.out fun x hx=>hbU.block x hx.2.1) fun x hx=>hx.keep (hbU.block x hx.2.1) hbU.size
  obtain⟨M,eM⟩:∃M,w3.heap.size+1=M:=⟨_,rfl⟩
  rw[eM] at HPU HCU
  have EM:=zL eM
  have hMU:M≤U.heap.size:=by have:=hbU.size;omega
  have hwM:w.heap.size<M:=by omega
  clear eM S1 S2 S3 S4 HCX HCV HPV hbU KC KP KAV KBV BK HT1 HT2 HT3 HT4 HC4 HP3
  obtain⟨_,_,_,_,_,_,ec,-,-,-,-,-,-,sF,sO,sH,-⟩:=zu HCU.out
  simp only[List.cons.injEq,Value.slice.injEq,and_true] at ec
  obtain⟨⟨rfl,enf,rfl⟩,⟨rfl,eno,rfl⟩,⟨rfl,enh,rfl⟩⟩:=ec
  have ENF:=zL enf
  have ENO:=zL eno
  have ENH:=zL enh
  have HSF:=zL sF
  have HSO:=zL sO
  have HSH:=zL sH
  have t0:=KCU.out.cell 0
  have bnf:nfc≤1000:=by rw[enf];exact HL1.out.1
  have bno:noc≤1000:=by rw[eno];exact HL1.out.2.1
  have bnh:nhc≤1000:=by rw[enh];exact HL1.out.2.2.1
  clear enf eno enh sF sO sH
  go_wp2_with fail
  go_loopw [7,8,9] (fun i _ _ wr=>∃k:Nat,k≤nfc∧i= .int .i64 (k:Nat)∧Tw M U wr) (fun i _ _ _=>nfc-(intOf i).toNat)
  case atStart=>exact⟨0,zY _,rfl,Tw.refl M U⟩
  case round=>
   obtain⟨wf,ef⟩:∃wf,wf=wr:=⟨_,rfl⟩
   subst ef
   obtain⟨k,hk,rfl,hTf⟩:=hrel
   have HTf:=zL hTf
   clear hTf t0
   have q0:=HTf.out.sl (KCU.out.cell 0)
   have k0:(0:Int)≤(k:Int):=by omega
   by_cases hkl:k<nfc
   · obtain⟨o,ho⟩:∃o,a.fr[k]? =some o:=⟨a.fr[k]'(by rw[←ENF.out];exact hkl),zM _⟩
     have k1:(k:Int)<(nfc:Int):=by omega
     obtain⟨ad,cs,ea,hab,hc,hR⟩:=HSF.out.at ho
     subst ea
     obtain⟨A0,c0,B0,d0,rfl,-,-,-,-,hWo,hBo,-,-⟩:=jC hR
     have cg0:=hc 1 _ rfl
     rw[show k*frL.k+1=k*4+1 from rfl,zV ad (k*4) 1 (by omega)] at cg0
     have cg2:=hc 2 _ rfl
     rw[show k*frL.k+2=k*4+2 from rfl,zV ad (k*4) 2 (by omega)] at cg2
     have cg3:=hc 3 _ rfl
     rw[show k*frL.k+3=k*4+3 from rfl,zV ad (k*4) 3 (by omega)] at cg3
     obtain⟨l0,el0⟩:∃l,o.locs.length=l:=⟨_,rfl⟩
     obtain⟨l1,el1⟩:∃l,o.stk.length=l:=⟨_,rfl⟩
     have hsml:=HL1.out.2.2.2.1 o (zT ho)
     have bl0:l0≤100000:=by rw[←el0];exact hsml.1
     have bl1:l1≤100000:=by rw[←el1];exact hsml.2
     rw[el0] at cg2
     rw[el1] at cg3
     have EL0:=zL el0
     have EL1:=zL el1
     have CG0:=zL cg0
     have CG2:=zL cg2
     have CG3:=zL cg3
     have HWO:=zL hWo
     have HBO:=zL hBo
     have HAB:=zL hab
     clear ho hR hc cg0 cg2 cg3 hWo hBo hab el0 el1 hsml
     go_wp2_with fail
     go_loopw [8] (fun i wr=>∃j:Nat,j≤l0∧i= .int .i64 (j:Nat)∧Tw M U wr) (fun i _=>l0-(intOf i).toNat)
     case atStart=>exact⟨0,zY _,rfl,HTf.out⟩
     case round=>
      obtain⟨wg,eg⟩:∃wg,wg=wr:=⟨_,rfl⟩
      subst eg
      obtain⟨j,hj,rfl,hTg⟩:=hrel
      have HTg:=zL hTg
      clear hTg
      have p0:=HTg.out.sl (KCU.out.cell 0)
      have p1:=HTg.out.sl CG2.out
      have j0:(0:Int)≤(j:Int):=by omega
      by_cases hjl:j<l0
      · obtain⟨y,hy⟩:∃y,o.locs[j]? =some y:=⟨o.locs[j]'(by rw[EL0.out];exact hjl),zM _⟩
        exact qx
      · have ej:l0=j:=by omega
        subst ej
        go_wp2_with fail
        obtain⟨wh,eh⟩:∃wh,wh=wg:=⟨_,rfl⟩
        subst eh
        have HTh:=HTg
        clear p0 p1 HTg
        go_loopw [9] (fun i wr=>∃j:Nat,j≤l1∧i= .int .i64 (j:Nat)∧Tw M U wr) (fun i _=>l1-(intOf i).toNat)
        case atStart=>exact⟨0,zY _,rfl,HTh.out⟩
        case round=>
         obtain⟨wg,eg⟩:∃wg,wg=wr:=⟨_,rfl⟩
         subst eg
         obtain⟨j,hj,rfl,hTg⟩:=hrel
         have HTg:=zL hTg
         clear hTg
         have p0:=HTg.out.sl (KCU.out.cell 0)
         have p1:=HTg.out.sl CG3.out
         have j0:(0:Int)≤(j:Int):=by omega
         by_cases hjl:j<l1
         · obtain⟨y,hy⟩:∃y,o.stk[j]? =some y:=⟨o.stk[j]'(by rw[EL1.out];exact hjl),zM _⟩
           obtain⟨a1,rfl,hS1,y1,hy1⟩:=num_cell HBO.out hy
           exact q5
         · have ej:l1=j:=by omega
           subst ej
           have hfz:wg.frozen? ⟨(ad.add (k*4)).block,(ad.add (k*4)).off+1,none⟩=false:=new_cell (p:=⟨(ad.add (k*4)).block,(ad.add (k*4)).off+1,none⟩) (by show New _ _ (ad.add (k*4)).block;rw[zh];exact HAB.out) HTg.out
           obtain⟨yp,hyp⟩:=HTg.out.num CG0.out
           have HYP:=zL hyp
           go_wp2_with fail
           exact⟨⟨k+1,by omega,by simp,HTg.out.set HYP.out (by show M≤(ad.add (k*4)).block;rw[zh];exact HAB.out.1) _⟩,by simp[intOf];omega⟩
   · have ek:nfc=k:=by omega
     subst ek
     have HTF:=HTf
     clear HTf
     have s0:=HTF.out.sl (KCU.out.cell 1)
     go_wp2_with fail
     go_loopw [10,11,12] (fun i _ _ wr=>∃k:Nat,k≤noc∧i= .int .i64 (k:Nat)∧Tw M U wr) (fun i _ _ _=>noc-(intOf i).toNat)
     case atStart=>exact⟨0,zY _,rfl,HTF.out⟩
     case round=>
      obtain⟨wf,ef⟩:∃wf,wf=wr:=⟨_,rfl⟩
      subst ef
      obtain⟨k,hk,rfl,hTf⟩:=hrel
      have HTf:=zL hTf
      clear hTf s0
      have q0:=HTf.out.sl (KCU.out.cell 1)
      have k0:(0:Int)≤(k:Int):=by omega
      by_cases hkl:k<noc
      · obtain⟨o,ho⟩:∃o,a.hp[k]? =some o:=⟨a.hp[k]'(by rw[←ENO.out];exact hkl),zM _⟩
        have k1:(k:Int)<(noc:Int):=by omega
        obtain⟨ad,cs,ea,hab,hc,hR⟩:=HSO.out.at ho
        subst ea
        obtain⟨A0,c0,B0,d0,rfl,-,-,-,-,hWo,hBo,-,-,-⟩:=jH hR
        have cg0:=hc 0 _ rfl
        rw[show k*obL.k+0=k*4 from rfl] at cg0
        have cg2:=hc 2 _ rfl
        rw[show k*obL.k+2=k*4+2 from rfl,zV ad (k*4) 2 (by omega)] at cg2
        have cg3:=hc 3 _ rfl
        rw[show k*obL.k+3=k*4+3 from rfl,zV ad (k*4) 3 (by omega)] at cg3
        obtain⟨l0,el0⟩:∃l,o.words.length=l:=⟨_,rfl⟩
        obtain⟨l1,el1⟩:∃l,o.bytes.length=l:=⟨_,rfl⟩
        have hsml:=HL1.out.2.2.2.2 o (zT ho)
        have bl0:l0≤100000:=by rw[←el0];exact hsml.1
        have bl1:l1≤100000:=by rw[←el1];exact hsml.2
        rw[el0] at cg2
        rw[el1] at cg3
        have EL0:=zL el0
        have EL1:=zL el1
        have CG0:=zL cg0
        have CG2:=zL cg2
        have CG3:=zL cg3
        have HWO:=zL hWo
        have HBO:=zL hBo
        have HAB:=zL hab
        clear ho hR hc cg0 cg2 cg3 hWo hBo hab el0 el1 hsml
        go_wp2_with fail
        go_loopw [11] (fun i wr=>∃j:Nat,j≤l0∧i= .int .i64 (j:Nat)∧Tw M U wr) (fun i _=>l0-(intOf i).toNat)
        case atStart=>exact⟨0,zY _,rfl,HTf.out⟩
        case round=>
         obtain⟨wg,eg⟩:∃wg,wg=wr:=⟨_,rfl⟩
         subst eg
         obtain⟨j,hj,rfl,hTg⟩:=hrel
         have HTg:=zL hTg
         clear hTg
         have p0:=HTg.out.sl (KCU.out.cell 1)
         have p1:=HTg.out.sl CG2.out
         have j0:(0:Int)≤(j:Int):=by omega
         by_cases hjl:j<l0
         · obtain⟨y,hy⟩:∃y,o.words[j]? =some y:=⟨o.words[j]'(by rw[EL0.out];exact hjl),zM _⟩
           exact qx
         · have ej:l0=j:=by omega
           subst ej
           go_wp2_with fail
           obtain⟨wh,eh⟩:∃wh,wh=wg:=⟨_,rfl⟩
           subst eh
           have HTh:=HTg
           clear p0 p1 HTg
           go_loopw [12] (fun i wr=>∃j:Nat,j≤l1∧i= .int .i64 (j:Nat)∧Tw M U wr) (fun i _=>l1-(intOf i).toNat)
           case atStart=>exact⟨0,zY _,rfl,HTh.out⟩
           case round=>
            obtain⟨wg,eg⟩:∃wg,wg=wr:=⟨_,rfl⟩
            subst eg
            obtain⟨j,hj,rfl,hTg⟩:=hrel
            have HTg:=zL hTg
            clear hTg
            have p0:=HTg.out.sl (KCU.out.cell 1)
            have p1:=HTg.out.sl CG3.out
            have j0:(0:Int)≤(j:Int):=by omega
            by_cases hjl:j<l1
            · obtain⟨y,hy⟩:∃y,o.bytes[j]? =some y:=⟨o.bytes[j]'(by rw[EL1.out];exact hjl),zM _⟩
              obtain⟨a1,rfl,hS1,y1,hy1⟩:=byt_cell HBO.out hy
              exact q5
            · have ej:l1=j:=by omega
              subst ej
              have hfz:wg.frozen? (ad.add (k*4))=false:=new_cell (p:=ad.add (k*4)) (by rw[zh];exact HAB.out) HTg.out
              obtain⟨yp,hyp⟩:=HTg.out.num CG0.out
              have HYP:=zL hyp
              go_wp2_with fail
              exact⟨⟨k+1,by omega,by simp,HTg.out.set HYP.out (by rw[zh];exact HAB.out.1) _⟩,by simp[intOf];omega⟩
      · have ek:noc=k:=by omega
        subst ek
        have HTO:=HTf
        clear HTf
        have s2:=HTO.out.sl (KCU.out.cell 2)
        go_wp2_with fail
        go_loopw [13] (fun i wr=>∃k:Nat,k≤nhc∧i= .int .i64 (k:Nat)∧Tw M U wr) (fun i _=>nhc-(intOf i).toNat)
        case atStart=>exact⟨0,zY _,rfl,HTO.out⟩
        case round=>
         obtain⟨wf,ef⟩:∃wf,wf=wr:=⟨_,rfl⟩
         subst ef
         obtain⟨k,hk,rfl,hTf⟩:=hrel
         have HTf:=zL hTf
         clear hTf s2
         have q0:=HTf.out.sl (KCU.out.cell 2)
         have k0:(0:Int)≤(k:Int):=by omega
         by_cases hkl:k<nhc
         · obtain⟨o,ho⟩:∃o,a.hn[k]? =some o:=⟨a.hn[k]'(by rw[←ENH.out];exact hkl),zM _⟩
           have k1:(k:Int)<(nhc:Int):=by omega
           obtain⟨ad,cs,ea,hab,hc,hR⟩:=HSH.out.at ho
           subst ea
           obtain⟨rfl,-⟩:=hR
           have cg0:=hc 1 _ rfl
           rw[show k*hdL.k+1=k*3+1 from rfl,zV ad (k*3) 1 (by omega)] at cg0
           obtain⟨yp,hyp⟩:=HTf.out.num cg0
           have HYP:=zL hyp
           have HAB:=zL hab
           have hfz:wf.frozen? ⟨(ad.add (k*3)).block,(ad.add (k*3)).off+1,none⟩=false:=new_cell (p:=⟨(ad.add (k*3)).block,(ad.add (k*3)).off+1,none⟩) (by show New _ _ (ad.add (k*3)).block;rw[zh];exact HAB.out) HTf.out
           clear ho hc cg0 hab
           go_wp2_with fail
           exact⟨⟨k+1,by omega,by simp,HTf.out.set HYP.out (by show M≤(ad.add (k*3)).block;rw[zh];exact HAB.out.1) _⟩,by simp[intOf];omega⟩
         · have ek:nhc=k:=by omega
           subst ek
           have HBf:Hid (Below w.heap.size w wf):=HBU.out.trans ⟨HTf.out.below.os,HTf.out.below.tape,HTf.out.below.output,HTf.out.below.size,fun x hx=>HTf.out.below.block x (by omega)⟩
           have HPX:Hid (∀X,Below wf.heap.size wf X→stL.R (·<X.heap.size) X [.slice Fp nfp cfp,.slice Op nop cop,.slice Hp nhp chp,.int .i64 a.quota,.int .i64 a.used,.int .i64 a.fin,.int .u64 (a.val:Int)] a):=fun X h=>stL.wide (stL.keep HPU.out fun x hx=>(h.block x (by have:=HTf.out.size;omega)).trans (HTf.out.below.block x hx)) fun x hx=>(by have:=HTf.out.size;have:=h.size;omega)
           have KPf:Hid (Blk wf w3.heap.size 27 #[.slice Fp nfp cfp,.slice Op nop cop,.slice Hp nhp chp,.int .i64 a.quota,.int .i64 a.used,.int .i64 a.fin,.int .u64 (a.val:Int)]):=(HTf.out.below.block _ (by have:=EM.out;omega)).trans KPU.out
           have KAf:Hid (Blk wf w.heap.size 27 #[.slice Fa nfa cfa,.slice Oa noa coa,.slice Ha nha cha,.int .i64 a.quota,.int .i64 a.used,.int .i64 a.fin,.int .u64 (a.val:Int)]):=(HTf.out.below.block _ (by omega)).trans KAU.out
           have HBX2:Hid (∀X,Below wf.heap.size wf X→Below w.heap.size w X):=fun X h=>HBf.out.trans (h.mono HBf.out.size)
           have S5:Hid (∀X,Below wf.heap.size wf X→Calls Try.prog 9 #[.agg #[.slice Fa nfa cfa,.slice Oa noa coa,.slice Ha nha cha,.int .i64 a.quota,.int .i64 a.used,.int .i64 a.fin,.int .u64 (a.val:Int)],.agg #[.slice Fp nfp cfp,.slice Op nop cop,.slice Hp nhp chp,.int .i64 a.quota,.int .i64 a.used,.int .i64 a.fin,.int .u64 (a.val:Int)]] X fun e w'=>e= .returned (.bool true)∧Below X.heap.size X w'):=fun X h=>by
            have:=ji [.slice Fa nfa cfa,.slice Oa noa coa,.slice Ha nha cha,.int .i64 a.quota,.int .i64 a.used,.int .i64 a.fin,.int .u64 (a.val:Int)] [.slice Fp nfp cfp,.slice Op nop cop,.slice Hp nhp chp,.int .i64 a.quota,.int .i64 a.used,.int .i64 a.fin,.int .u64 (a.val:Int)] a a X (CA.out X (HBX2.out X h)) (HPX.out X h) HL1.out HL1.out
            rw[z9] at this
            exact this
           go_wp2_with (first
            |(go_at_call 5
              refine(AN.out _).mono ?_
              rintro e w7 ⟨rfl,hb7⟩
              have ka7:=zb KAf.out hb7 (by have:=HTf.out.size;omega)
              have kp7:=zb KPf.out hb7 (by have:=HTf.out.size;have:=EM.out;omega)
              have a0:=ka7.cell 0
              have b0:=kp7.cell 0
              have a1:=ka7.cell 1
              have b1:=kp7.cell 1
              have a2:=ka7.cell 2
              have b2:=kp7.cell 2
              have a3:=ka7.cell 3
              have b3:=kp7.cell 3
              have a4:=ka7.cell 4
              have b4:=kp7.cell 4
              have a5:=ka7.cell 5
              have b5:=kp7.cell 5
              have a6:=ka7.cell 6
              have b6:=kp7.cell 6
              have HB7:=zL hb7
              clear ka7 kp7 hb7)
            |(go_at_call 9
              refine(S5.out w7 HB7.out).mono ?_
              rintro e w8 ⟨rfl,hb8⟩
              have HB8:=zL (HB7.out.trans (hb8.mono HB7.out.size))
              clear hb8))
           go_ret
           exact⟨rfl,HBX2.out _ HB8.out⟩
set_option maxRecDepth 100000 in
theorem lifted (os:Os) (started:os.Started) (H:Type) (enc:TypeId×Value→H):
 ReturnsInHanded {} Try.checked os 3 .any (Rows.stateCopiesSpec.pre6 enc Try.prog Try.f3 Rows.stateCopiesRow.domain false) (Rows.stateCopiesSpec.post enc Try.prog Try.f3 false true false false):=by
 refine returnsInHanded_of_change_sized (C:=Try.checked) own started qD Try.func3
  (ChangeSpec.witness6 (enc:=enc) (C:=Try.checked) false ⟨#[],#[.agg #[.slice none 0 0,.slice none 0 0,.slice none 0 0,.int .i64 0,.int .i64 0,.int .i64 0,.int .u64 0],.agg #[.slice none 0 0,.slice none 0 0,.slice none 0 0,.int .i64 0,.int .i64 0,.int .i64 0,.int .u64 0]],[]⟩ 8 qD qD qD qD) ?_
 intro W base args ds gs before hval0 hW hcnd hwz _
 have hval:∀(j:Nat) t v,Try.f3.params[j]? =some t→args[j]? =some v→Value.okWide Try.prog W .any base t v:=hval0
 have hW':=hW
 obtain⟨p,q,hA0,hV,rfl,hfz,hnd⟩:=hW
 have hA:DataW.TrodAll enc Try.prog W 0 (fun _=>true) true Try.f3.params.toList args.toList ds p:=hA0
 rw[Try.params3] at hA hval
 obtain⟨v0,vs0,d0,ds0,p0,q0,hargs,rfl,rfl,h0,r0⟩:=trodAll_cons hA
 obtain⟨v1,vs1,d1,ds1,p1,q1,rfl,rfl,rfl,h1,r1⟩:=trodAll_cons r0
 obtain⟨rfl,rfl,rfl⟩:=trodAll_nil r1
 obtain rfl:args= #[v0,v1]:=by cases args;simp_all
 obtain⟨rfl,rfl⟩:=trodVars_none hV
 have lt0:∀x∈p0,x.block<W.heap.size:=by obtain⟨m,hm⟩:=h0;exact DataW.trod_lt m _ _ _ hm
 have hwz0:∀n∈d0.weights Try.prog 27,n≤reachBytes:=fun n hn=>by simpa using List.all_eq_true.1 hwz n (DataW.weights_mem_each (j:=0) (t:=27) (d:=d0) (by first|rfl|kernel_rfl) rfl n hn)
 obtain⟨cs0,s0,rfl,hs0,hz0⟩:=qBX h0 hwz0
 have lt1:∀x∈p1,x.block<W.heap.size:=by obtain⟨m,hm⟩:=h1;exact DataW.trod_lt m _ _ _ hm
 have hwz1:∀n∈d1.weights Try.prog 27,n≤reachBytes:=fun n hn=>by simpa using List.all_eq_true.1 hwz n (DataW.weights_mem_each (j:=1) (t:=27) (d:=d1) (by first|rfl|kernel_rfl) rfl n hn)
 obtain⟨cs1,s1,rfl,hs1,hz1⟩:=qBX h1 hwz1
 clear hA0 hval0
 refine(walk cs0 s0 cs1 s1 W hs0 hz0 hs1 hz1).mono fun e W' ⟨he,bel⟩=> ?_
 subst he
 exact⟨_,rfl,_,_,_,[],_,[],hW',trodAll_mk1 (shut_bool Try.underlying4 _),(trodAll_cons_mk (Below.trod qCI qD (of_decide_eq_true qD) h0 bel lt0) (trodAll_cons_mk (Below.trod qCI qD (of_decide_eq_true qD) h1 bel lt1) trodAll_mk0)),rfl,bel.frame _,fun h=>by cases h⟩
theorem over:Rows.stateCopiesRow.holds Try.pinned (OpenSpec.ofChange Rows.stateCopiesSpec):=
 OpenClaim.holds_of_wide 3 Try.f3 rfl rfl rfl rfl rfl rfl rfl ⟨rfl,rfl,rfl,rfl,rfl⟩ rfl rfl rfl rfl rfl qD Try.func3 qD
  (of_decide_eq_true qD) (by unfold Func.isWrapper;first|(rw[if_pos (by decide +kernel)];kernel_rfl)|(rw[if_neg (by decide +kernel)];exact⟨rfl,rfl⟩))
  (fun os started H enc _=>lifted os started H enc)
/-- The statement. -/
theorem proved:Rows.StateCopiesSaid:=over
end Go.Proofs.Ytconajaecpgjgaa.stateCopies
