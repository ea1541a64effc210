/-
Rrl
-/
import Derived.Test.YtconajaecpgjgaaGreatT30
import Derived.Test.YtconajaecpgjgaaGreatT41
set_option linter.unusedSimpArgs false
set_option linter.unusedVariables false
set_option maxRecDepth 100000
set_option maxHeartbeats 8000000
namespace Go.Proofs.YtconajaecpgjgaaGreat
open Go.RowKit
theorem qCL (A0 A1 A2 A3 A4 P0 P1 P2 D:Option Addr) (n0 n1 n2 n3 n4 d0 d1 d2 d3 d4 ua ul uc c0 c1 c2 k g:Nat) (x:Mod) (f:Fn) (ts:List Typ) (o:Int) (j l:Nat) (w:World) (H:Cx w A0 A1 A2 A3 A4 P0 P1 P2 D n0 n1 n2 n3 n4 d0 d1 d2 d3 d4 ua ul uc c0 c1 c2 k g x f ts) (hj:j≤255) (hl:l≤255) (hkg:k≤g) (hg9:g≤9223372036854775807) (ho:(o=28∧∃r,x.recs[j]? =some r)∨(o=29∧∃r t,x.recs[j]? =some r∧r[l]? =some t)∨(o=30∧∃r t,x.recs[j]? =some r∧r[l]? =some t)∨(o=6∧k=0)∨(o=7∧k<2)∨(o=41∧k=0)):Calls Tryz.prog 54 #[.agg #[.slice A0 n0 d0,.slice A1 n1 d1,.slice A2 n2 d2,.slice A3 n3 d3,.slice A4 n4 d4],.agg #[.slice P0 ua c0,.int .i64 f.ret.1,.int .i64 f.ret.2,.slice P1 ul c1,.slice P2 uc c2],.agg #[.int .i64 o,.int .i64 (j:Int),.int .i64 (l:Int)],.slice D k g] w (Ruled (ruleB x f (o,(j:Int),(l:Int)) ts) w):=by
 have HH:=qAZ H
 have HIA:Hid (I64 ((4,(j:Int)):Typ).1∧I64 ((4,(j:Int)):Typ).2):=⟨qAo (by omega) (by omega),qAo (by omega) (by omega)⟩
 clear H
 obtain⟨rb,hrb⟩:∃r,ruleB x f (o,(j:Int),(l:Int)) ts=r:=⟨_,rfl⟩
 rw[hrb]
 have HRB:=qAZ hrb
 clear hrb
 have HO:=qAZ ho
 clear ho
 go_enter Tryz.func54,Tryz.ntmps54
 go_upto_region 2 with(fail)
 refine qAp fun U hU=> ?_
 have HBU:Hid (Below w.heap.size w U):=by show Below _ _ _;rw[hU];exact((((qAj w _).alloc (by simp) _).alloc qG _).alloc qG _).alloc qG _
 have HMu:Hid (Blk U w.heap.size 28 #[.slice A0 n0 d0,.slice A1 n1 d1,.slice A2 n2 d2,.slice A3 n3 d3,.slice A4 n4 d4]):=by show Blk _ _ _ _;rw[hU];exact qAd (qAd (qAd (qAd (qAz w _ _))))
 have HFu:Hid (Blk U (w.heap.size+1) 61 #[.slice P0 ua c0,.int .i64 f.ret.1,.int .i64 f.ret.2,.slice P1 ul c1,.slice P2 uc c2]):=by show Blk _ _ _ _;rw[hU];exact qAd (qAd (qAd (qAm (by simp))))
 have HIu:Hid (Blk U (w.heap.size+2) 65 #[.int .i64 o,.int .i64 (j:Int),.int .i64 (l:Int)]):=by show Blk _ _ _ _;rw[hU];exact qAd (qAd (qAm (by simp)))
 have HNu:Hid (Blk U (w.heap.size+3) 58 #[.int .i64 1,.int .i64 0]∧Blk U (w.heap.size+4) 58 #[.int .i64 7,.int .i64 0]):=by show _∧_;rw[hU];exact⟨qAd (qAm (by simp)),qAm (by simp)⟩
 have hsU:w.heap.size+5≤U.heap.size:=by rw[hU];simp
 clear hU
 have hiu:=HIu.out.cell 1
 simp only[List.getElem?_toArray,List.getElem?_cons_succ,List.getElem?_cons_zero] at hiu
 go_cut [13,14,15] (fun s13 s14 s15 wx=>∃g1 g2 g3:Nat,s13= .pointer (some ⟨g1,0,none⟩)∧s14= .pointer (some ⟨g2,0,none⟩)∧s15= .pointer (some ⟨g3,0,none⟩)∧Blk wx g1 58 #[.int .i64 2,.int .i64 0]∧Blk wx g2 58 #[.int .i64 3,.int .i64 0]∧Blk wx g3 58 #[.int .i64 4,.int .i64 (j:Int)]∧Below U.heap.size U wx)
 case first=>
  exact qC
 case rest=>
  obtain⟨g1,g2,g3,rfl,rfl,rfl,hB1,hB2,hB3,hbx⟩:=hcut
  go_upto_region 3 with(fail)
  refine qAp fun W hW=> ?_
  rw[←hW] at hB1 hB2 hB3 hbx
  clear hW hiu
  have HX:Hid (Blk W g1 58 #[.int .i64 2,.int .i64 0]∧Blk W g2 58 #[.int .i64 3,.int .i64 0]∧Blk W g3 58 #[.int .i64 4,.int .i64 (j:Int)]):=⟨hB1,hB2,hB3⟩
  have hg1:=hB1.lt
  have hg2:=hB2.lt
  have hg3:=hB3.lt
  have HBW:Hid (Below w.heap.size w W):=HBU.out.trans (hbx.mono HBU.out.size)
  have HM:Hid (Blk W w.heap.size 28 #[.slice A0 n0 d0,.slice A1 n1 d1,.slice A2 n2 d2,.slice A3 n3 d3,.slice A4 n4 d4]):=qAc HMu.out hbx (by omega)
  have HF:Hid (Blk W (w.heap.size+1) 61 #[.slice P0 ua c0,.int .i64 f.ret.1,.int .i64 f.ret.2,.slice P1 ul c1,.slice P2 uc c2]):=qAc HFu.out hbx (by omega)
  have HI:Hid (Blk W (w.heap.size+2) 65 #[.int .i64 o,.int .i64 (j:Int),.int .i64 (l:Int)]):=qAc HIu.out hbx (by omega)
  have HN:Hid (Blk W (w.heap.size+3) 58 #[.int .i64 1,.int .i64 0]∧Blk W (w.heap.size+4) 58 #[.int .i64 7,.int .i64 0]):=⟨qAc HNu.out.1 hbx (by omega),qAc HNu.out.2 hbx (by omega)⟩
  have hsW:w.heap.size+5≤W.heap.size:=qBA hsU hbx.size
  have hop:=HI.out.cell 0
  simp only[List.getElem?_toArray,List.getElem?_cons_zero] at hop
  clear hB1 hB2 hB3 hbx HMu HFu HIu HNu HBU hsU
  have ho:=HO.out
  clear HO
  rcases ho with⟨rfl,r,hq⟩|⟨rfl,r,t,hq,ht⟩|⟨rfl,r,t,hq,ht⟩|⟨rfl,hk0⟩|⟨rfl,hk0⟩|⟨rfl,hk0⟩
  · skip
    as_aux_lemma=>
     have HV:Hid (ruleB x f (28,(j:Int),(l:Int)) ts=some (r,[(4,(j:Int))])):=by
      show ruleB _ _ _ _=_
      simp[ruleB,hq]
     obtain⟨a,cs,ea,hab,hcl,hr⟩:=HH.out.s0.at hq
     subst ea
     obtain⟨P9,e9,rfl,hle9,hmx9,hsq9⟩:=hr
     have hjn:(j:Int)<(n0:Int):=by have:=(qAh.1 hq).1;have:=HH.out.l0;omega
     have hqn:n0≤1000:=HH.out.b0
     have HTS:Hid (tysL.R (·<w.heap.size) w [.slice P9 r.length e9] r):=⟨P9,e9,rfl,hle9,hmx9,hsq9⟩
     clear hq hle9 hmx9 hsq9
     generalize r.length=qa at*
     have hc0:=(HBW.out.cell (p:=a.add j) qp).trans (qBC (K:=tysL.k) rfl (hcl 0 _ rfl))
     clear hcl
     have HL:Hid (∀w':World,(∀b,b<W.heap.size→b≠W.heap.size→w'.heap[b]? =W.heap[b]?)→w'.cell? ⟨w.heap.size,0,none⟩=some (.slice (some a) n0 d0)∧w'.cell? ⟨w.heap.size+2,1,none⟩=some (.int .i64 (j:Int))∧w'.cell? ⟨g3,0,none⟩=some (.int .i64 4)∧w'.cell? ⟨g3,1,none⟩=some (.int .i64 (j:Int))∧w'.cell? (a.add j)=some (.slice P9 qa e9)):=fun w' hk=>⟨(qAb (hk _ qAK je)).trans (HM.out.cell 0),(qAb (hk _ zw qU)).trans (HI.out.cell 1),(qAb (hk _ (by show g3<_;omega) (by show g3≠_;omega))).trans (HX.out.2.2.cell 0),(qAb (hk _ (by show g3<_;omega) (by show g3≠_;omega))).trans (HX.out.2.2.cell 1),(qAb (hk _ qAT qAO)).trans (hc0)⟩
     have HC:Hid (∀w',Below W.heap.size W w'→w'.cell? ⟨w.heap.size,0,none⟩=some (.slice (some a) n0 d0)∧w'.cell? ⟨w.heap.size+2,1,none⟩=some (.int .i64 (j:Int))∧w'.cell? ⟨g3,0,none⟩=some (.int .i64 4)∧w'.cell? ⟨g3,1,none⟩=some (.int .i64 (j:Int))∧w'.cell? (a.add j)=some (.slice P9 qa e9)):=fun w' hb=>HL.out w' fun b h1 _=>hb.block b h1
     have HCs:Hid (∀w' u v,Below W.heap.size W w'→((w'.setCell ⟨W.heap.size,0,none⟩ u).setCell ⟨W.heap.size,1,none⟩ v).cell? ⟨w.heap.size,0,none⟩=some (.slice (some a) n0 d0)∧((w'.setCell ⟨W.heap.size,0,none⟩ u).setCell ⟨W.heap.size,1,none⟩ v).cell? ⟨w.heap.size+2,1,none⟩=some (.int .i64 (j:Int))∧((w'.setCell ⟨W.heap.size,0,none⟩ u).setCell ⟨W.heap.size,1,none⟩ v).cell? ⟨g3,0,none⟩=some (.int .i64 4)∧((w'.setCell ⟨W.heap.size,0,none⟩ u).setCell ⟨W.heap.size,1,none⟩ v).cell? ⟨g3,1,none⟩=some (.int .i64 (j:Int))∧((w'.setCell ⟨W.heap.size,0,none⟩ u).setCell ⟨W.heap.size,1,none⟩ v).cell? (a.add j)=some (.slice P9 qa e9)):=fun w' u v hb=>HL.out _ fun b h1 h2=>((qAi _ ⟨W.heap.size,1,none⟩ v b h2).trans (qAi _ ⟨W.heap.size,0,none⟩ u b h2)).trans (hb.block b h1)
     have SW:=qAZ (HC.out W (qAe _ _))
     go_wp2_with fail
     go_region_held3 (fun w'=>w'.cell? ⟨w.heap.size,0,none⟩=some (.slice (some a) n0 d0)∧w'.cell? ⟨w.heap.size+2,1,none⟩=some (.int .i64 (j:Int))∧w'.cell? ⟨g3,0,none⟩=some (.int .i64 4)∧w'.cell? ⟨g3,1,none⟩=some (.int .i64 (j:Int))∧w'.cell? (a.add j)=some (.slice P9 qa e9))
      (first|exact SW.out|exact HC.out _ (qAe _ W).drew|exact HC.out _ (qAj W _).drew|exact HC.out _ ((qAj W _).alloc (by simp) _).drew)
      (fail)
     all_goals
      go_wp2_with fail
      go_ret3
      refine⟨qA,.inr ⟨_,_,_,_,_,_,_,_,HRB.out.symm.trans HV.out,rfl,?_,?_⟩⟩
      · exact qGK HTS.out qA
      · exact jJ
  · skip
    as_aux_lemma=>
     have HV:Hid (ruleB x f (29,(j:Int),(l:Int)) ts=some ([(4,(j:Int))],[t])):=by
      show ruleB _ _ _ _=_
      simp[ruleB,fldB,hq,ht]
     obtain⟨a,cs,ea,hab,hcl,hr⟩:=HH.out.s0.at hq
     subst ea
     obtain⟨P9,e9,rfl,hle9,hmx9,hsq9⟩:=hr
     have hjn:(j:Int)<(n0:Int):=by have:=(qAh.1 hq).1;have:=HH.out.l0;omega
     have hqn:n0≤1000:=HH.out.b0
     have HTS:Hid (tysL.R (·<w.heap.size) w [.slice P9 r.length e9] r):=⟨P9,e9,rfl,hle9,hmx9,hsq9⟩
     have hln:(l:Int)<(r.length:Int):=by have:=(qAh.1 ht).1;omega
     have hrm:r.length≤9223372036854775807:=by unfold maxLen at hmx9;omega
     obtain⟨a2,cs2,ea2,ha2b,hcl2,hr2⟩:=hsq9.at ht
     subst ea2
     obtain⟨rfl,h641,h642⟩:=hr2
     have H64:Hid (I64 t.1∧I64 t.2):=⟨h641,h642⟩
     clear ht h641 h642
     clear hq hle9 hmx9 hsq9
     generalize r.length=qa at*
     have hc0:=(HBW.out.cell (p:=a.add j) qp).trans (qBC (K:=tysL.k) rfl (hcl 0 _ rfl))
     clear hcl
     have hd0:=(HBW.out.cell (p:=a2.add (l*2)) qp).trans (hcl2 0 _ rfl)
     have hd1:=(HBW.out.cell (p:=a2.add (l*2+1)) qp).trans (hcl2 1 _ rfl)
     rw[qAl a2 (l*2) 1 (by omega)] at hd1
     clear hcl2
     have HL:Hid (∀w':World,(∀b,b<W.heap.size→b≠W.heap.size→w'.heap[b]? =W.heap[b]?)→w'.cell? ⟨w.heap.size,0,none⟩=some (.slice (some a) n0 d0)∧w'.cell? ⟨w.heap.size+2,1,none⟩=some (.int .i64 (j:Int))∧w'.cell? ⟨w.heap.size+2,2,none⟩=some (.int .i64 (l:Int))∧w'.cell? ⟨g3,0,none⟩=some (.int .i64 4)∧w'.cell? ⟨g3,1,none⟩=some (.int .i64 (j:Int))∧w'.cell? (a.add j)=some (.slice (some a2) qa e9)∧w'.cell? (a2.add (l*2))=some (.int .i64 t.1)∧w'.cell? ⟨(a2.add (l*2)).block,(a2.add (l*2)).off+1,none⟩=some (.int .i64 t.2)):=fun w' hk=>⟨(qAb (hk _ qAK je)).trans (HM.out.cell 0),(qAb (hk _ zw qU)).trans (HI.out.cell 1),(qAb (hk _ zw qU)).trans (HI.out.cell 2),(qAb (hk _ (by show g3<_;omega) (by show g3≠_;omega))).trans (HX.out.2.2.cell 0),(qAb (hk _ (by show g3<_;omega) (by show g3≠_;omega))).trans (HX.out.2.2.cell 1),(qAb (hk _ qAT qAO)).trans (hc0),(qAb (hk _ qAY qAW)).trans (hd0),(qAb (hk _ qAY qAW)).trans (hd1)⟩
     have HC:Hid (∀w',Below W.heap.size W w'→w'.cell? ⟨w.heap.size,0,none⟩=some (.slice (some a) n0 d0)∧w'.cell? ⟨w.heap.size+2,1,none⟩=some (.int .i64 (j:Int))∧w'.cell? ⟨w.heap.size+2,2,none⟩=some (.int .i64 (l:Int))∧w'.cell? ⟨g3,0,none⟩=some (.int .i64 4)∧w'.cell? ⟨g3,1,none⟩=some (.int .i64 (j:Int))∧w'.cell? (a.add j)=some (.slice (some a2) qa e9)∧w'.cell? (a2.add (l*2))=some (.int .i64 t.1)∧w'.cell? ⟨(a2.add (l*2)).block,(a2.add (l*2)).off+1,none⟩=some (.int .i64 t.2)):=fun w' hb=>HL.out w' fun b h1 _=>hb.block b h1
     have HCs:Hid (∀w' u v,Below W.heap.size W w'→((w'.setCell ⟨W.heap.size,0,none⟩ u).setCell ⟨W.heap.size,1,none⟩ v).cell? ⟨w.heap.size,0,none⟩=some (.slice (some a) n0 d0)∧((w'.setCell ⟨W.heap.size,0,none⟩ u).setCell ⟨W.heap.size,1,none⟩ v).cell? ⟨w.heap.size+2,1,none⟩=some (.int .i64 (j:Int))∧((w'.setCell ⟨W.heap.size,0,none⟩ u).setCell ⟨W.heap.size,1,none⟩ v).cell? ⟨w.heap.size+2,2,none⟩=some (.int .i64 (l:Int))∧((w'.setCell ⟨W.heap.size,0,none⟩ u).setCell ⟨W.heap.size,1,none⟩ v).cell? ⟨g3,0,none⟩=some (.int .i64 4)∧((w'.setCell ⟨W.heap.size,0,none⟩ u).setCell ⟨W.heap.size,1,none⟩ v).cell? ⟨g3,1,none⟩=some (.int .i64 (j:Int))∧((w'.setCell ⟨W.heap.size,0,none⟩ u).setCell ⟨W.heap.size,1,none⟩ v).cell? (a.add j)=some (.slice (some a2) qa e9)∧((w'.setCell ⟨W.heap.size,0,none⟩ u).setCell ⟨W.heap.size,1,none⟩ v).cell? (a2.add (l*2))=some (.int .i64 t.1)∧((w'.setCell ⟨W.heap.size,0,none⟩ u).setCell ⟨W.heap.size,1,none⟩ v).cell? ⟨(a2.add (l*2)).block,(a2.add (l*2)).off+1,none⟩=some (.int .i64 t.2)):=fun w' u v hb=>HL.out _ fun b h1 h2=>((qAi _ ⟨W.heap.size,1,none⟩ v b h2).trans (qAi _ ⟨W.heap.size,0,none⟩ u b h2)).trans (hb.block b h1)
     have SW:=qAZ (HC.out W (qAe _ _))
     go_wp2_with fail
     go_region_held3 (fun w'=>w'.cell? ⟨w.heap.size,0,none⟩=some (.slice (some a) n0 d0)∧w'.cell? ⟨w.heap.size+2,1,none⟩=some (.int .i64 (j:Int))∧w'.cell? ⟨w.heap.size+2,2,none⟩=some (.int .i64 (l:Int))∧w'.cell? ⟨g3,0,none⟩=some (.int .i64 4)∧w'.cell? ⟨g3,1,none⟩=some (.int .i64 (j:Int))∧w'.cell? (a.add j)=some (.slice (some a2) qa e9)∧w'.cell? (a2.add (l*2))=some (.int .i64 t.1)∧w'.cell? ⟨(a2.add (l*2)).block,(a2.add (l*2)).off+1,none⟩=some (.int .i64 t.2))
      (first|exact SW.out|exact HC.out _ (qAe _ W).drew|exact HC.out _ (qAj W _).drew|exact HC.out _ ((qAj W _).alloc (by simp) _).drew)
      (fail)
     all_goals
      go_wp2_with fail
      go_ret3
      refine⟨qA,.inr ⟨_,_,_,_,_,_,_,_,HRB.out.symm.trans HV.out,rfl,?_,?_⟩⟩
      · exact jJ
      · exact qBO (cs:= #[.int .i64 t.1,.int .i64 t.2]) (ts:=[t]) (by(repeat(first|((with_reducible refine qAm ?_);simp;done)|with_reducible refine qAd ?_|with_reducible refine qAy ?_))) rfl (qAx H64.out (A64.nil)) rfl (by omega)
  · skip
    as_aux_lemma=>
     have HV:Hid (ruleB x f (30,(j:Int),(l:Int)) ts=some ([(4,(j:Int)),t],[])):=by
      show ruleB _ _ _ _=_
      simp[ruleB,fldB,hq,ht]
     obtain⟨a,cs,ea,hab,hcl,hr⟩:=HH.out.s0.at hq
     subst ea
     obtain⟨P9,e9,rfl,hle9,hmx9,hsq9⟩:=hr
     have hjn:(j:Int)<(n0:Int):=by have:=(qAh.1 hq).1;have:=HH.out.l0;omega
     have hqn:n0≤1000:=HH.out.b0
     have HTS:Hid (tysL.R (·<w.heap.size) w [.slice P9 r.length e9] r):=⟨P9,e9,rfl,hle9,hmx9,hsq9⟩
     have hln:(l:Int)<(r.length:Int):=by have:=(qAh.1 ht).1;omega
     have hrm:r.length≤9223372036854775807:=by unfold maxLen at hmx9;omega
     obtain⟨a2,cs2,ea2,ha2b,hcl2,hr2⟩:=hsq9.at ht
     subst ea2
     obtain⟨rfl,h641,h642⟩:=hr2
     have H64:Hid (I64 t.1∧I64 t.2):=⟨h641,h642⟩
     clear ht h641 h642
     clear hq hle9 hmx9 hsq9
     generalize r.length=qa at*
     have hc0:=(HBW.out.cell (p:=a.add j) qp).trans (qBC (K:=tysL.k) rfl (hcl 0 _ rfl))
     clear hcl
     have hd0:=(HBW.out.cell (p:=a2.add (l*2)) qp).trans (hcl2 0 _ rfl)
     have hd1:=(HBW.out.cell (p:=a2.add (l*2+1)) qp).trans (hcl2 1 _ rfl)
     rw[qAl a2 (l*2) 1 (by omega)] at hd1
     clear hcl2
     have HL:Hid (∀w':World,(∀b,b<W.heap.size→b≠W.heap.size→w'.heap[b]? =W.heap[b]?)→w'.cell? ⟨w.heap.size,0,none⟩=some (.slice (some a) n0 d0)∧w'.cell? ⟨w.heap.size+2,1,none⟩=some (.int .i64 (j:Int))∧w'.cell? ⟨w.heap.size+2,2,none⟩=some (.int .i64 (l:Int))∧w'.cell? ⟨g3,0,none⟩=some (.int .i64 4)∧w'.cell? ⟨g3,1,none⟩=some (.int .i64 (j:Int))∧w'.cell? (a.add j)=some (.slice (some a2) qa e9)∧w'.cell? (a2.add (l*2))=some (.int .i64 t.1)∧w'.cell? ⟨(a2.add (l*2)).block,(a2.add (l*2)).off+1,none⟩=some (.int .i64 t.2)):=fun w' hk=>⟨(qAb (hk _ qAK je)).trans (HM.out.cell 0),(qAb (hk _ zw qU)).trans (HI.out.cell 1),(qAb (hk _ zw qU)).trans (HI.out.cell 2),(qAb (hk _ (by show g3<_;omega) (by show g3≠_;omega))).trans (HX.out.2.2.cell 0),(qAb (hk _ (by show g3<_;omega) (by show g3≠_;omega))).trans (HX.out.2.2.cell 1),(qAb (hk _ qAT qAO)).trans (hc0),(qAb (hk _ qAY qAW)).trans (hd0),(qAb (hk _ qAY qAW)).trans (hd1)⟩
     have HC:Hid (∀w',Below W.heap.size W w'→w'.cell? ⟨w.heap.size,0,none⟩=some (.slice (some a) n0 d0)∧w'.cell? ⟨w.heap.size+2,1,none⟩=some (.int .i64 (j:Int))∧w'.cell? ⟨w.heap.size+2,2,none⟩=some (.int .i64 (l:Int))∧w'.cell? ⟨g3,0,none⟩=some (.int .i64 4)∧w'.cell? ⟨g3,1,none⟩=some (.int .i64 (j:Int))∧w'.cell? (a.add j)=some (.slice (some a2) qa e9)∧w'.cell? (a2.add (l*2))=some (.int .i64 t.1)∧w'.cell? ⟨(a2.add (l*2)).block,(a2.add (l*2)).off+1,none⟩=some (.int .i64 t.2)):=fun w' hb=>HL.out w' fun b h1 _=>hb.block b h1
     have HCs:Hid (∀w' u v,Below W.heap.size W w'→((w'.setCell ⟨W.heap.size,0,none⟩ u).setCell ⟨W.heap.size,1,none⟩ v).cell? ⟨w.heap.size,0,none⟩=some (.slice (some a) n0 d0)∧((w'.setCell ⟨W.heap.size,0,none⟩ u).setCell ⟨W.heap.size,1,none⟩ v).cell? ⟨w.heap.size+2,1,none⟩=some (.int .i64 (j:Int))∧((w'.setCell ⟨W.heap.size,0,none⟩ u).setCell ⟨W.heap.size,1,none⟩ v).cell? ⟨w.heap.size+2,2,none⟩=some (.int .i64 (l:Int))∧((w'.setCell ⟨W.heap.size,0,none⟩ u).setCell ⟨W.heap.size,1,none⟩ v).cell? ⟨g3,0,none⟩=some (.int .i64 4)∧((w'.setCell ⟨W.heap.size,0,none⟩ u).setCell ⟨W.heap.size,1,none⟩ v).cell? ⟨g3,1,none⟩=some (.int .i64 (j:Int))∧((w'.setCell ⟨W.heap.size,0,none⟩ u).setCell ⟨W.heap.size,1,none⟩ v).cell? (a.add j)=some (.slice (some a2) qa e9)∧((w'.setCell ⟨W.heap.size,0,none⟩ u).setCell ⟨W.heap.size,1,none⟩ v).cell? (a2.add (l*2))=some (.int .i64 t.1)∧((w'.setCell ⟨W.heap.size,0,none⟩ u).setCell ⟨W.heap.size,1,none⟩ v).cell? ⟨(a2.add (l*2)).block,(a2.add (l*2)).off+1,none⟩=some (.int .i64 t.2)):=fun w' u v hb=>HL.out _ fun b h1 h2=>((qAi _ ⟨W.heap.size,1,none⟩ v b h2).trans (qAi _ ⟨W.heap.size,0,none⟩ u b h2)).trans (hb.block b h1)
     have SW:=qAZ (HC.out W (qAe _ _))
     go_wp2_with fail
     go_region_held3 (fun w'=>w'.cell? ⟨w.heap.size,0,none⟩=some (.slice (some a) n0 d0)∧w'.cell? ⟨w.heap.size+2,1,none⟩=some (.int .i64 (j:Int))∧w'.cell? ⟨w.heap.size+2,2,none⟩=some (.int .i64 (l:Int))∧w'.cell? ⟨g3,0,none⟩=some (.int .i64 4)∧w'.cell? ⟨g3,1,none⟩=some (.int .i64 (j:Int))∧w'.cell? (a.add j)=some (.slice (some a2) qa e9)∧w'.cell? (a2.add (l*2))=some (.int .i64 t.1)∧w'.cell? ⟨(a2.add (l*2)).block,(a2.add (l*2)).off+1,none⟩=some (.int .i64 t.2))
      (first|exact SW.out|exact HC.out _ (qAe _ W).drew|exact HC.out _ (qAj W _).drew|exact HC.out _ ((qAj W _).alloc (by simp) _).drew)
      (fail)
     all_goals
      go_wp2_with fail
      go_ret3
      refine⟨qA,.inr ⟨_,_,_,_,_,_,_,_,HRB.out.symm.trans HV.out,rfl,?_,?_⟩⟩
      · exact qBO (cs:= #[.int .i64 4,.int .i64 (j:Int),.int .i64 t.1,.int .i64 t.2]) (ts:=[(4,(j:Int)),t]) (by(repeat(first|((with_reducible refine qAm ?_);simp;done)|with_reducible refine qAd ?_|with_reducible refine qAy ?_))) rfl (qAx HIA.out (qAx H64.out (A64.nil))) rfl (by omega)
      · exact zp
  · skip
    as_aux_lemma=>
     obtain rfl:ts=[]:=qA1 (by rw[HH.out.hk,hk0])
     have HV:Hid (ruleB x f (6,(j:Int),(l:Int)) []=none):=by
      show ruleB _ _ _ _=_
      simp[ruleB]
     have hki:(k:Int)<1:=by omega
     clear hk0
     go_wp2_with fail
     go_ret3
     exact⟨HBW.out,.inl ⟨HRB.out.symm.trans HV.out,rfl⟩⟩
  · skip
    as_aux_lemma=>
     have hs:ts.length<2:=by have:=HH.out.hk;omega
     have HV:Hid (ruleB x f (7,(j:Int),(l:Int)) ts=none):=by
      show ruleB _ _ _ _=_
      cases hr:ts.reverse with
      |nil=>simp[ruleB,hr]
      |cons t r=>
       cases r with
       |nil=>simp[ruleB,hr]
       |cons y r=>have e:=congrArg List.length hr;simp at e;omega
     have hki:(k:Int)<2:=by omega
     go_wp2_with fail
     go_ret3
     exact⟨HBW.out,.inl ⟨HRB.out.symm.trans HV.out,rfl⟩⟩
  · skip
    as_aux_lemma=>
     obtain rfl:ts=[]:=qA1 (by rw[HH.out.hk,hk0])
     have HV:Hid (ruleB x f (41,(j:Int),(l:Int)) []=none):=by
      show ruleB _ _ _ _=_
      simp[ruleB]
     have hki:(k:Int)<1:=by omega
     clear hk0
     go_wp2_with fail
     go_ret3
     exact⟨HBW.out,.inl ⟨HRB.out.symm.trans HV.out,rfl⟩⟩
end Go.Proofs.YtconajaecpgjgaaGreat
