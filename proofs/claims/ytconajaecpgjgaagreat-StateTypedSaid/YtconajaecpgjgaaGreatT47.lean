/-
Rrk
-/
import Derived.Test.YtconajaecpgjgaaGreatT30
import Derived.Test.YtconajaecpgjgaaGreatT41
set_option linter.unusedSimpArgs false
set_option linter.unusedVariables false
set_option maxRecDepth 100000
set_option maxHeartbeats 8000000
namespace Go.Proofs.YtconajaecpgjgaaGreat
open Go.RowKit
theorem qCh (A0 A1 A2 A3 A4 P0 P1 P2 D:Option Addr) (n0 n1 n2 n3 n4 d0 d1 d2 d3 d4 ua ul uc c0 c1 c2 k g:Nat) (x:Mod) (f:Fn) (ts:List Typ) (o:Int) (j l:Nat) (w:World) (H:Cx w A0 A1 A2 A3 A4 P0 P1 P2 D n0 n1 n2 n3 n4 d0 d1 d2 d3 d4 ua ul uc c0 c1 c2 k g x f ts) (hj:j≤255) (hl:l≤255) (hkg:k≤g) (hg9:g≤9223372036854775807) (ho:o=3∨o=4∨o=26∨(o=25∧∃q,x.funcs[j]? =some q)∨(o=27∧∃q,x.imps[j]? =some q)):Calls Tryz.prog 54 #[.agg #[.slice A0 n0 d0,.slice A1 n1 d1,.slice A2 n2 d2,.slice A3 n3 d3,.slice A4 n4 d4],.agg #[.slice P0 ua c0,.int .i64 f.ret.1,.int .i64 f.ret.2,.slice P1 ul c1,.slice P2 uc c2],.agg #[.int .i64 o,.int .i64 (j:Int),.int .i64 (l:Int)],.slice D k g] w (Ruled (ruleB x f (o,(j:Int),(l:Int)) ts) w):=by
 have HH:=qAZ H
 have HIA:Hid (I64 ((4,(j:Int)):Typ).1∧I64 ((4,(j:Int)):Typ).2):=⟨qAo (by omega) (by omega),qAo (by omega) (by omega)⟩
 clear H
 obtain⟨rb,hrb⟩:∃r,ruleB x f (o,(j:Int),(l:Int)) ts=r:=⟨_,rfl⟩
 rw[hrb]
 have HRB:=qAZ hrb
 clear hrb
 have HO:=qAZ ho
 clear ho
 go_enter Tryz.func54,Tryz.ntmps54
 go_upto_region 2 with(fail)
 refine qAp fun U hU=> ?_
 have HBU:Hid (Below w.heap.size w U):=by show Below _ _ _;rw[hU];exact((((qAj w _).alloc (by simp) _).alloc qG _).alloc qG _).alloc qG _
 have HMu:Hid (Blk U w.heap.size 28 #[.slice A0 n0 d0,.slice A1 n1 d1,.slice A2 n2 d2,.slice A3 n3 d3,.slice A4 n4 d4]):=by show Blk _ _ _ _;rw[hU];exact qAd (qAd (qAd (qAd (qAz w _ _))))
 have HFu:Hid (Blk U (w.heap.size+1) 61 #[.slice P0 ua c0,.int .i64 f.ret.1,.int .i64 f.ret.2,.slice P1 ul c1,.slice P2 uc c2]):=by show Blk _ _ _ _;rw[hU];exact qAd (qAd (qAd (qAm (by simp))))
 have HIu:Hid (Blk U (w.heap.size+2) 65 #[.int .i64 o,.int .i64 (j:Int),.int .i64 (l:Int)]):=by show Blk _ _ _ _;rw[hU];exact qAd (qAd (qAm (by simp)))
 have HNu:Hid (Blk U (w.heap.size+3) 58 #[.int .i64 1,.int .i64 0]∧Blk U (w.heap.size+4) 58 #[.int .i64 7,.int .i64 0]):=by show _∧_;rw[hU];exact⟨qAd (qAm (by simp)),qAm (by simp)⟩
 have hsU:w.heap.size+5≤U.heap.size:=by rw[hU];simp
 clear hU
 have hiu:=HIu.out.cell 1
 simp only[List.getElem?_toArray,List.getElem?_cons_succ,List.getElem?_cons_zero] at hiu
 go_cut [13,14,15] (fun s13 s14 s15 wx=>∃g1 g2 g3:Nat,s13= .pointer (some ⟨g1,0,none⟩)∧s14= .pointer (some ⟨g2,0,none⟩)∧s15= .pointer (some ⟨g3,0,none⟩)∧Blk wx g1 58 #[.int .i64 2,.int .i64 0]∧Blk wx g2 58 #[.int .i64 3,.int .i64 0]∧Blk wx g3 58 #[.int .i64 4,.int .i64 (j:Int)]∧Below U.heap.size U wx)
 case first=>
  exact qC
 case rest=>
  obtain⟨g1,g2,g3,rfl,rfl,rfl,hB1,hB2,hB3,hbx⟩:=hcut
  go_upto_region 3 with(fail)
  refine qAp fun W hW=> ?_
  rw[←hW] at hB1 hB2 hB3 hbx
  clear hW hiu
  have HX:Hid (Blk W g1 58 #[.int .i64 2,.int .i64 0]∧Blk W g2 58 #[.int .i64 3,.int .i64 0]∧Blk W g3 58 #[.int .i64 4,.int .i64 (j:Int)]):=⟨hB1,hB2,hB3⟩
  have hg1:=hB1.lt
  have hg2:=hB2.lt
  have hg3:=hB3.lt
  have HBW:Hid (Below w.heap.size w W):=HBU.out.trans (hbx.mono HBU.out.size)
  have HM:Hid (Blk W w.heap.size 28 #[.slice A0 n0 d0,.slice A1 n1 d1,.slice A2 n2 d2,.slice A3 n3 d3,.slice A4 n4 d4]):=qAc HMu.out hbx (by omega)
  have HF:Hid (Blk W (w.heap.size+1) 61 #[.slice P0 ua c0,.int .i64 f.ret.1,.int .i64 f.ret.2,.slice P1 ul c1,.slice P2 uc c2]):=qAc HFu.out hbx (by omega)
  have HI:Hid (Blk W (w.heap.size+2) 65 #[.int .i64 o,.int .i64 (j:Int),.int .i64 (l:Int)]):=qAc HIu.out hbx (by omega)
  have HN:Hid (Blk W (w.heap.size+3) 58 #[.int .i64 1,.int .i64 0]∧Blk W (w.heap.size+4) 58 #[.int .i64 7,.int .i64 0]):=⟨qAc HNu.out.1 hbx (by omega),qAc HNu.out.2 hbx (by omega)⟩
  have hsW:w.heap.size+5≤W.heap.size:=qBA hsU hbx.size
  have hop:=HI.out.cell 0
  simp only[List.getElem?_toArray,List.getElem?_cons_zero] at hop
  clear hB1 hB2 hB3 hbx HMu HFu HIu HNu HBU hsU
  have ho:=HO.out
  clear HO
  rcases ho with rfl|rfl|rfl|⟨rfl,q,hq⟩|⟨rfl,q,hq⟩
  · skip
    as_aux_lemma=>
     have LCc:Hid (∀v,Below w.heap.size w v→Calls Tryz.prog 88 #[.agg #[.slice P0 ua c0,.int .i64 f.ret.1,.int .i64 f.ret.2,.slice P1 ul c1,.slice P2 uc c2],.int .i64 (j:Int)] v (TypIs (locB f (j:Int)) v)):=fun v hb=>qD3 P0 P1 P2 ua ul uc c0 c1 c2 f.ret.1 f.ret.2 f (j:Int) v HH.out.g0 HH.out.g1 ((HH.out.t0.below hb (qAf _)).wide fun i hi=>qAg hi hb.size) ((HH.out.t1.below hb (qAf _)).wide fun i hi=>qAg hi hb.size) (by have:=HH.out.b3;have:=HH.out.b4;omega) (qAo (by omega) (by omega))
     have H64:=qAZ (qDn (n:=(j:Int)) HH.out.t0.a64 HH.out.t1.a64)
     have HV:Hid (ruleB x f (3,(j:Int),(l:Int)) ts=some ([],[locB f (j:Int)])):=by
      show ruleB _ _ _ _=_
      simp[ruleB]
     generalize locB f (j:Int)=t at*
     have HL:Hid (∀w':World,(∀b,b<W.heap.size→b≠W.heap.size→w'.heap[b]? =W.heap[b]?)→w'.cell? ⟨w.heap.size+1,0,none⟩=some (.slice P0 ua c0)∧w'.cell? ⟨w.heap.size+1,1,none⟩=some (.int .i64 f.ret.1)∧w'.cell? ⟨w.heap.size+1,2,none⟩=some (.int .i64 f.ret.2)∧w'.cell? ⟨w.heap.size+1,3,none⟩=some (.slice P1 ul c1)∧w'.cell? ⟨w.heap.size+1,4,none⟩=some (.slice P2 uc c2)∧w'.cell? ⟨w.heap.size+2,1,none⟩=some (.int .i64 (j:Int))):=fun w' hk=>⟨(qAb (hk _ qAJ jd)).trans (HF.out.cell 0),(qAb (hk _ qAJ jd)).trans (HF.out.cell 1),(qAb (hk _ qAJ jd)).trans (HF.out.cell 2),(qAb (hk _ qAJ jd)).trans (HF.out.cell 3),(qAb (hk _ qAJ jd)).trans (HF.out.cell 4),(qAb (hk _ zw qU)).trans (HI.out.cell 1)⟩
     have HC:Hid (∀w',Below W.heap.size W w'→w'.cell? ⟨w.heap.size+1,0,none⟩=some (.slice P0 ua c0)∧w'.cell? ⟨w.heap.size+1,1,none⟩=some (.int .i64 f.ret.1)∧w'.cell? ⟨w.heap.size+1,2,none⟩=some (.int .i64 f.ret.2)∧w'.cell? ⟨w.heap.size+1,3,none⟩=some (.slice P1 ul c1)∧w'.cell? ⟨w.heap.size+1,4,none⟩=some (.slice P2 uc c2)∧w'.cell? ⟨w.heap.size+2,1,none⟩=some (.int .i64 (j:Int))):=fun w' hb=>HL.out w' fun b h1 _=>hb.block b h1
     have HCs:Hid (∀w' u v,Below W.heap.size W w'→((w'.setCell ⟨W.heap.size,0,none⟩ u).setCell ⟨W.heap.size,1,none⟩ v).cell? ⟨w.heap.size+1,0,none⟩=some (.slice P0 ua c0)∧((w'.setCell ⟨W.heap.size,0,none⟩ u).setCell ⟨W.heap.size,1,none⟩ v).cell? ⟨w.heap.size+1,1,none⟩=some (.int .i64 f.ret.1)∧((w'.setCell ⟨W.heap.size,0,none⟩ u).setCell ⟨W.heap.size,1,none⟩ v).cell? ⟨w.heap.size+1,2,none⟩=some (.int .i64 f.ret.2)∧((w'.setCell ⟨W.heap.size,0,none⟩ u).setCell ⟨W.heap.size,1,none⟩ v).cell? ⟨w.heap.size+1,3,none⟩=some (.slice P1 ul c1)∧((w'.setCell ⟨W.heap.size,0,none⟩ u).setCell ⟨W.heap.size,1,none⟩ v).cell? ⟨w.heap.size+1,4,none⟩=some (.slice P2 uc c2)∧((w'.setCell ⟨W.heap.size,0,none⟩ u).setCell ⟨W.heap.size,1,none⟩ v).cell? ⟨w.heap.size+2,1,none⟩=some (.int .i64 (j:Int))):=fun w' u v hb=>HL.out _ fun b h1 h2=>((qAi _ ⟨W.heap.size,1,none⟩ v b h2).trans (qAi _ ⟨W.heap.size,0,none⟩ u b h2)).trans (hb.block b h1)
     have SW:=qAZ (HC.out W (qAe _ _))
     obtain⟨z0,z1,z2,z3,z4,z5⟩:=SW.out
     go_wp2_with (first
      |(go_at_call 88;(with_reducible refine(LCc.out _ HBW.out).mono ?_);rintro e w4 ⟨rfl,hb4⟩;have HB4:=qAZ hb4;have hs4:=hb4.size;clear hb4))
     go_ret3
     refine⟨(HBW.out.trans (HB4.out.mono HBW.out.size)).alloc (qBA HBW.out.size HB4.out.size) _,.inr ⟨_,_,_,_,_,_,_,_,HRB.out.symm.trans HV.out,rfl,?_,?_⟩⟩
     · exact zp
     · exact jM
  · skip
    as_aux_lemma=>
     have LCc:Hid (∀v,Below w.heap.size w v→Calls Tryz.prog 88 #[.agg #[.slice P0 ua c0,.int .i64 f.ret.1,.int .i64 f.ret.2,.slice P1 ul c1,.slice P2 uc c2],.int .i64 (j:Int)] v (TypIs (locB f (j:Int)) v)):=fun v hb=>qD3 P0 P1 P2 ua ul uc c0 c1 c2 f.ret.1 f.ret.2 f (j:Int) v HH.out.g0 HH.out.g1 ((HH.out.t0.below hb (qAf _)).wide fun i hi=>qAg hi hb.size) ((HH.out.t1.below hb (qAf _)).wide fun i hi=>qAg hi hb.size) (by have:=HH.out.b3;have:=HH.out.b4;omega) (qAo (by omega) (by omega))
     have H64:=qAZ (qDn (n:=(j:Int)) HH.out.t0.a64 HH.out.t1.a64)
     have HV:Hid (ruleB x f (4,(j:Int),(l:Int)) ts=some ([locB f (j:Int)],[])):=by
      show ruleB _ _ _ _=_
      simp[ruleB]
     generalize locB f (j:Int)=t at*
     have HL:Hid (∀w':World,(∀b,b<W.heap.size→b≠W.heap.size→w'.heap[b]? =W.heap[b]?)→w'.cell? ⟨w.heap.size+1,0,none⟩=some (.slice P0 ua c0)∧w'.cell? ⟨w.heap.size+1,1,none⟩=some (.int .i64 f.ret.1)∧w'.cell? ⟨w.heap.size+1,2,none⟩=some (.int .i64 f.ret.2)∧w'.cell? ⟨w.heap.size+1,3,none⟩=some (.slice P1 ul c1)∧w'.cell? ⟨w.heap.size+1,4,none⟩=some (.slice P2 uc c2)∧w'.cell? ⟨w.heap.size+2,1,none⟩=some (.int .i64 (j:Int))):=fun w' hk=>⟨(qAb (hk _ qAJ jd)).trans (HF.out.cell 0),(qAb (hk _ qAJ jd)).trans (HF.out.cell 1),(qAb (hk _ qAJ jd)).trans (HF.out.cell 2),(qAb (hk _ qAJ jd)).trans (HF.out.cell 3),(qAb (hk _ qAJ jd)).trans (HF.out.cell 4),(qAb (hk _ zw qU)).trans (HI.out.cell 1)⟩
     have HC:Hid (∀w',Below W.heap.size W w'→w'.cell? ⟨w.heap.size+1,0,none⟩=some (.slice P0 ua c0)∧w'.cell? ⟨w.heap.size+1,1,none⟩=some (.int .i64 f.ret.1)∧w'.cell? ⟨w.heap.size+1,2,none⟩=some (.int .i64 f.ret.2)∧w'.cell? ⟨w.heap.size+1,3,none⟩=some (.slice P1 ul c1)∧w'.cell? ⟨w.heap.size+1,4,none⟩=some (.slice P2 uc c2)∧w'.cell? ⟨w.heap.size+2,1,none⟩=some (.int .i64 (j:Int))):=fun w' hb=>HL.out w' fun b h1 _=>hb.block b h1
     have HCs:Hid (∀w' u v,Below W.heap.size W w'→((w'.setCell ⟨W.heap.size,0,none⟩ u).setCell ⟨W.heap.size,1,none⟩ v).cell? ⟨w.heap.size+1,0,none⟩=some (.slice P0 ua c0)∧((w'.setCell ⟨W.heap.size,0,none⟩ u).setCell ⟨W.heap.size,1,none⟩ v).cell? ⟨w.heap.size+1,1,none⟩=some (.int .i64 f.ret.1)∧((w'.setCell ⟨W.heap.size,0,none⟩ u).setCell ⟨W.heap.size,1,none⟩ v).cell? ⟨w.heap.size+1,2,none⟩=some (.int .i64 f.ret.2)∧((w'.setCell ⟨W.heap.size,0,none⟩ u).setCell ⟨W.heap.size,1,none⟩ v).cell? ⟨w.heap.size+1,3,none⟩=some (.slice P1 ul c1)∧((w'.setCell ⟨W.heap.size,0,none⟩ u).setCell ⟨W.heap.size,1,none⟩ v).cell? ⟨w.heap.size+1,4,none⟩=some (.slice P2 uc c2)∧((w'.setCell ⟨W.heap.size,0,none⟩ u).setCell ⟨W.heap.size,1,none⟩ v).cell? ⟨w.heap.size+2,1,none⟩=some (.int .i64 (j:Int))):=fun w' u v hb=>HL.out _ fun b h1 h2=>((qAi _ ⟨W.heap.size,1,none⟩ v b h2).trans (qAi _ ⟨W.heap.size,0,none⟩ u b h2)).trans (hb.block b h1)
     have SW:=qAZ (HC.out W (qAe _ _))
     obtain⟨z0,z1,z2,z3,z4,z5⟩:=SW.out
     go_wp2_with (first
      |(go_at_call 88;(with_reducible refine(LCc.out _ HBW.out).mono ?_);rintro e w4 ⟨rfl,hb4⟩;have HB4:=qAZ hb4;have hs4:=hb4.size;clear hb4))
     go_ret3
     refine⟨(HBW.out.trans (HB4.out.mono HBW.out.size)).alloc (qBA HBW.out.size HB4.out.size) _,.inr ⟨_,_,_,_,_,_,_,_,HRB.out.symm.trans HV.out,rfl,?_,?_⟩⟩
     · exact jM
     · exact zp
  · skip
    as_aux_lemma=>
     have H64:=qAZ HH.out.rt
     have HV:Hid (ruleB x f (26,(j:Int),(l:Int)) ts=some ([f.ret],[])):=by
      show ruleB _ _ _ _=_
      simp[ruleB]
     have HL:Hid (∀w':World,(∀b,b<W.heap.size→b≠W.heap.size→w'.heap[b]? =W.heap[b]?)→w'.cell? ⟨w.heap.size+1,1,none⟩=some (.int .i64 f.ret.1)∧w'.cell? ⟨w.heap.size+1,2,none⟩=some (.int .i64 f.ret.2)):=fun w' hk=>⟨(qAb (hk _ jA qs)).trans (HF.out.cell 1),(qAb (hk _ jA qs)).trans (HF.out.cell 2)⟩
     have HC:Hid (∀w',Below W.heap.size W w'→w'.cell? ⟨w.heap.size+1,1,none⟩=some (.int .i64 f.ret.1)∧w'.cell? ⟨w.heap.size+1,2,none⟩=some (.int .i64 f.ret.2)):=fun w' hb=>HL.out w' fun b h1 _=>hb.block b h1
     have HCs:Hid (∀w' u v,Below W.heap.size W w'→((w'.setCell ⟨W.heap.size,0,none⟩ u).setCell ⟨W.heap.size,1,none⟩ v).cell? ⟨w.heap.size+1,1,none⟩=some (.int .i64 f.ret.1)∧((w'.setCell ⟨W.heap.size,0,none⟩ u).setCell ⟨W.heap.size,1,none⟩ v).cell? ⟨w.heap.size+1,2,none⟩=some (.int .i64 f.ret.2)):=fun w' u v hb=>HL.out _ fun b h1 h2=>((qAi _ ⟨W.heap.size,1,none⟩ v b h2).trans (qAi _ ⟨W.heap.size,0,none⟩ u b h2)).trans (hb.block b h1)
     have SW:=qAZ (HC.out W (qAe _ _))
     obtain⟨z0,z1⟩:=SW.out
     go_wp2_with fail
     go_ret3
     refine⟨qA,.inr ⟨_,_,_,_,_,_,_,_,HRB.out.symm.trans HV.out,rfl,?_,?_⟩⟩
     · exact qBO (cs:= #[.int .i64 f.ret.1,.int .i64 f.ret.2]) (ts:=[f.ret]) (by(repeat(first|((with_reducible refine qAm ?_);simp;done)|with_reducible refine qAd ?_|with_reducible refine qAy ?_))) rfl (qAx H64.out (A64.nil)) rfl (by omega)
     · exact zp
  · skip
    as_aux_lemma=>
     have HV:Hid (ruleB x f (25,(j:Int),(l:Int)) ts=some (q.args,[q.ret])):=by
      show ruleB _ _ _ _=_
      simp[ruleB,hq]
     obtain⟨a,cs,ea,hab,hcl,hr⟩:=HH.out.s1.at hq
     subst ea
     obtain⟨_,_,_,rfl,hq1,hq2,⟨P9,e9,eq9,hle9,hmx9,hsq9⟩,⟨_,_,eq8,-⟩,⟨_,_,eq7,-⟩⟩:=hr
     simp only[List.cons.injEq,and_true] at eq9 eq8 eq7
     subst eq9 eq8 eq7
     have HTS:Hid (tysL.R (·<w.heap.size) w [.slice P9 q.args.length e9] q.args):=⟨P9,e9,rfl,hle9,hmx9,hsq9⟩
     have H64:Hid (I64 q.ret.1∧I64 q.ret.2):=⟨hq1,hq2⟩
     have hjn:(j:Int)<(n1:Int):=by have:=(qAh.1 hq).1;have:=HH.out.l1;omega
     have hqn:n1≤1000:=HH.out.b1
     clear hq hle9 hmx9 hsq9 hq1 hq2
     generalize q.args.length=qa at*
     have hc0:=(HBW.out.cell (p:=a.add (j*5)) qp).trans (hcl 0 _ rfl)
     have hc1:=(HBW.out.cell (p:=a.add (j*5+1)) qp).trans (hcl 1 _ rfl)
     rw[qAl a (j*5) 1 (by omega)] at hc1
     have hc2:=(HBW.out.cell (p:=a.add (j*5+2)) qp).trans (hcl 2 _ rfl)
     rw[qAl a (j*5) 2 (by omega)] at hc2
     clear hcl
     have HL:Hid (∀w':World,(∀b,b<W.heap.size→b≠W.heap.size→w'.heap[b]? =W.heap[b]?)→w'.cell? ⟨w.heap.size,1,none⟩=some (.slice (some a) n1 d1)∧w'.cell? ⟨w.heap.size+2,1,none⟩=some (.int .i64 (j:Int))∧w'.cell? (a.add (j*5))=some (.slice P9 qa e9)∧w'.cell? ⟨(a.add (j*5)).block,(a.add (j*5)).off+1,none⟩=some (.int .i64 q.ret.1)∧w'.cell? ⟨(a.add (j*5)).block,(a.add (j*5)).off+2,none⟩=some (.int .i64 q.ret.2)):=fun w' hk=>⟨(qAb (hk _ qAK je)).trans (HM.out.cell 1),(qAb (hk _ zw qU)).trans (HI.out.cell 1),(qAb (hk _ qAS qAN)).trans (hc0),(qAb (hk _ qAS qAN)).trans (hc1),(qAb (hk _ qAS qAN)).trans (hc2)⟩
     have HC:Hid (∀w',Below W.heap.size W w'→w'.cell? ⟨w.heap.size,1,none⟩=some (.slice (some a) n1 d1)∧w'.cell? ⟨w.heap.size+2,1,none⟩=some (.int .i64 (j:Int))∧w'.cell? (a.add (j*5))=some (.slice P9 qa e9)∧w'.cell? ⟨(a.add (j*5)).block,(a.add (j*5)).off+1,none⟩=some (.int .i64 q.ret.1)∧w'.cell? ⟨(a.add (j*5)).block,(a.add (j*5)).off+2,none⟩=some (.int .i64 q.ret.2)):=fun w' hb=>HL.out w' fun b h1 _=>hb.block b h1
     have HCs:Hid (∀w' u v,Below W.heap.size W w'→((w'.setCell ⟨W.heap.size,0,none⟩ u).setCell ⟨W.heap.size,1,none⟩ v).cell? ⟨w.heap.size,1,none⟩=some (.slice (some a) n1 d1)∧((w'.setCell ⟨W.heap.size,0,none⟩ u).setCell ⟨W.heap.size,1,none⟩ v).cell? ⟨w.heap.size+2,1,none⟩=some (.int .i64 (j:Int))∧((w'.setCell ⟨W.heap.size,0,none⟩ u).setCell ⟨W.heap.size,1,none⟩ v).cell? (a.add (j*5))=some (.slice P9 qa e9)∧((w'.setCell ⟨W.heap.size,0,none⟩ u).setCell ⟨W.heap.size,1,none⟩ v).cell? ⟨(a.add (j*5)).block,(a.add (j*5)).off+1,none⟩=some (.int .i64 q.ret.1)∧((w'.setCell ⟨W.heap.size,0,none⟩ u).setCell ⟨W.heap.size,1,none⟩ v).cell? ⟨(a.add (j*5)).block,(a.add (j*5)).off+2,none⟩=some (.int .i64 q.ret.2)):=fun w' u v hb=>HL.out _ fun b h1 h2=>((qAi _ ⟨W.heap.size,1,none⟩ v b h2).trans (qAi _ ⟨W.heap.size,0,none⟩ u b h2)).trans (hb.block b h1)
     have SW:=qAZ (HC.out W (qAe _ _))
     go_wp2_with fail
     go_region_held3 (fun w'=>w'.cell? ⟨w.heap.size,1,none⟩=some (.slice (some a) n1 d1)∧w'.cell? ⟨w.heap.size+2,1,none⟩=some (.int .i64 (j:Int))∧w'.cell? (a.add (j*5))=some (.slice P9 qa e9)∧w'.cell? ⟨(a.add (j*5)).block,(a.add (j*5)).off+1,none⟩=some (.int .i64 q.ret.1)∧w'.cell? ⟨(a.add (j*5)).block,(a.add (j*5)).off+2,none⟩=some (.int .i64 q.ret.2))
      (first|exact SW.out|exact HC.out _ (qAe _ W).drew|exact HC.out _ (qAj W _).drew|exact HC.out _ ((qAj W _).alloc (by simp) _).drew)
      (fail)
     all_goals
      go_wp2_with fail
      go_ret3
      refine⟨qA,.inr ⟨_,_,_,_,_,_,_,_,HRB.out.symm.trans HV.out,rfl,?_,?_⟩⟩
      · exact qGK HTS.out qA
      · exact qBO (cs:= #[.int .i64 q.ret.1,.int .i64 q.ret.2]) (ts:=[q.ret]) (by(repeat(first|((with_reducible refine qAm ?_);simp;done)|with_reducible refine qAd ?_|with_reducible refine qAy ?_))) rfl (qAx H64.out (A64.nil)) rfl (by omega)
  · skip
    as_aux_lemma=>
     have HV:Hid (ruleB x f (27,(j:Int),(l:Int)) ts=some (q.args,[q.ret])):=by
      show ruleB _ _ _ _=_
      simp[ruleB,hq]
     obtain⟨a,cs,ea,hab,hcl,hr⟩:=HH.out.s2.at hq
     subst ea
     obtain⟨_,rfl,hq1,hq2,⟨P9,e9,eq9,hle9,hmx9,hsq9⟩⟩:=hr
     simp only[List.cons.injEq,and_true] at eq9
     subst eq9
     have HTS:Hid (tysL.R (·<w.heap.size) w [.slice P9 q.args.length e9] q.args):=⟨P9,e9,rfl,hle9,hmx9,hsq9⟩
     have H64:Hid (I64 q.ret.1∧I64 q.ret.2):=⟨hq1,hq2⟩
     have hjn:(j:Int)<(n2:Int):=by have:=(qAh.1 hq).1;have:=HH.out.l2;omega
     have hqn:n2≤1000:=HH.out.b2
     clear hq hle9 hmx9 hsq9 hq1 hq2
     generalize q.args.length=qa at*
     have hc0:=(HBW.out.cell (p:=a.add (j*3)) qp).trans (hcl 0 _ rfl)
     have hc1:=(HBW.out.cell (p:=a.add (j*3+1)) qp).trans (hcl 1 _ rfl)
     rw[qAl a (j*3) 1 (by omega)] at hc1
     have hc2:=(HBW.out.cell (p:=a.add (j*3+2)) qp).trans (hcl 2 _ rfl)
     rw[qAl a (j*3) 2 (by omega)] at hc2
     clear hcl
     have HL:Hid (∀w':World,(∀b,b<W.heap.size→b≠W.heap.size→w'.heap[b]? =W.heap[b]?)→w'.cell? ⟨w.heap.size,2,none⟩=some (.slice (some a) n2 d2)∧w'.cell? ⟨w.heap.size+2,1,none⟩=some (.int .i64 (j:Int))∧w'.cell? (a.add (j*3))=some (.slice P9 qa e9)∧w'.cell? ⟨(a.add (j*3)).block,(a.add (j*3)).off+1,none⟩=some (.int .i64 q.ret.1)∧w'.cell? ⟨(a.add (j*3)).block,(a.add (j*3)).off+2,none⟩=some (.int .i64 q.ret.2)):=fun w' hk=>⟨(qAb (hk _ qAK je)).trans (HM.out.cell 2),(qAb (hk _ zw qU)).trans (HI.out.cell 1),(qAb (hk _ qAR qAM)).trans (hc0),(qAb (hk _ qAR qAM)).trans (hc1),(qAb (hk _ qAR qAM)).trans (hc2)⟩
     have HC:Hid (∀w',Below W.heap.size W w'→w'.cell? ⟨w.heap.size,2,none⟩=some (.slice (some a) n2 d2)∧w'.cell? ⟨w.heap.size+2,1,none⟩=some (.int .i64 (j:Int))∧w'.cell? (a.add (j*3))=some (.slice P9 qa e9)∧w'.cell? ⟨(a.add (j*3)).block,(a.add (j*3)).off+1,none⟩=some (.int .i64 q.ret.1)∧w'.cell? ⟨(a.add (j*3)).block,(a.add (j*3)).off+2,none⟩=some (.int .i64 q.ret.2)):=fun w' hb=>HL.out w' fun b h1 _=>hb.block b h1
     have HCs:Hid (∀w' u v,Below W.heap.size W w'→((w'.setCell ⟨W.heap.size,0,none⟩ u).setCell ⟨W.heap.size,1,none⟩ v).cell? ⟨w.heap.size,2,none⟩=some (.slice (some a) n2 d2)∧((w'.setCell ⟨W.heap.size,0,none⟩ u).setCell ⟨W.heap.size,1,none⟩ v).cell? ⟨w.heap.size+2,1,none⟩=some (.int .i64 (j:Int))∧((w'.setCell ⟨W.heap.size,0,none⟩ u).setCell ⟨W.heap.size,1,none⟩ v).cell? (a.add (j*3))=some (.slice P9 qa e9)∧((w'.setCell ⟨W.heap.size,0,none⟩ u).setCell ⟨W.heap.size,1,none⟩ v).cell? ⟨(a.add (j*3)).block,(a.add (j*3)).off+1,none⟩=some (.int .i64 q.ret.1)∧((w'.setCell ⟨W.heap.size,0,none⟩ u).setCell ⟨W.heap.size,1,none⟩ v).cell? ⟨(a.add (j*3)).block,(a.add (j*3)).off+2,none⟩=some (.int .i64 q.ret.2)):=fun w' u v hb=>HL.out _ fun b h1 h2=>((qAi _ ⟨W.heap.size,1,none⟩ v b h2).trans (qAi _ ⟨W.heap.size,0,none⟩ u b h2)).trans (hb.block b h1)
     have SW:=qAZ (HC.out W (qAe _ _))
     go_wp2_with fail
     go_region_held3 (fun w'=>w'.cell? ⟨w.heap.size,2,none⟩=some (.slice (some a) n2 d2)∧w'.cell? ⟨w.heap.size+2,1,none⟩=some (.int .i64 (j:Int))∧w'.cell? (a.add (j*3))=some (.slice P9 qa e9)∧w'.cell? ⟨(a.add (j*3)).block,(a.add (j*3)).off+1,none⟩=some (.int .i64 q.ret.1)∧w'.cell? ⟨(a.add (j*3)).block,(a.add (j*3)).off+2,none⟩=some (.int .i64 q.ret.2))
      (first|exact SW.out|exact HC.out _ (qAe _ W).drew|exact HC.out _ (qAj W _).drew|exact HC.out _ ((qAj W _).alloc (by simp) _).drew)
      (fail)
     all_goals
      go_wp2_with fail
      go_ret3
      refine⟨qA,.inr ⟨_,_,_,_,_,_,_,_,HRB.out.symm.trans HV.out,rfl,?_,?_⟩⟩
      · exact qGK HTS.out qA
      · exact qBO (cs:= #[.int .i64 q.ret.1,.int .i64 q.ret.2]) (ts:=[q.ret]) (by(repeat(first|((with_reducible refine qAm ?_);simp;done)|with_reducible refine qAd ?_|with_reducible refine qAy ?_))) rfl (qAx H64.out (A64.nil)) rfl (by omega)
end Go.Proofs.YtconajaecpgjgaaGreat
