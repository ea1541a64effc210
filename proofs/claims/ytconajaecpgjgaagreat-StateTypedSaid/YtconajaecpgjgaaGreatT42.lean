/-
Rrb
-/
import Derived.Test.YtconajaecpgjgaaGreatT30
import Derived.Test.YtconajaecpgjgaaGreatT41
set_option linter.unusedSimpArgs false
set_option linter.unusedVariables false
set_option maxRecDepth 100000
set_option maxHeartbeats 8000000
namespace Go.Proofs.YtconajaecpgjgaaGreat
open Go.RowKit
theorem qIb (A0 A1 A2 A3 A4 P0 P1 P2 D:Option Addr) (n0 n1 n2 n3 n4 d0 d1 d2 d3 d4 ua ul uc c0 c1 c2 k g:Nat) (x:Mod) (f:Fn) (ts:List Typ) (o:Int) (j l:Nat) (w:World) (H:Cx w A0 A1 A2 A3 A4 P0 P1 P2 D n0 n1 n2 n3 n4 d0 d1 d2 d3 d4 ua ul uc c0 c1 c2 k g x f ts) (hj:j≤255) (hl:l≤255) (ho:o=33∨o=34∨o=35∨o=36∨o=37):Calls Tryz.prog 54 #[.agg #[.slice A0 n0 d0,.slice A1 n1 d1,.slice A2 n2 d2,.slice A3 n3 d3,.slice A4 n4 d4],.agg #[.slice P0 ua c0,.int .i64 f.ret.1,.int .i64 f.ret.2,.slice P1 ul c1,.slice P2 uc c2],.agg #[.int .i64 o,.int .i64 (j:Int),.int .i64 (l:Int)],.slice D k g] w (Ruled (ruleB x f (o,(j:Int),(l:Int)) ts) w):=by
 have HH:=qAZ H
 have HIA:Hid (I64 ((4,(j:Int)):Typ).1∧I64 ((4,(j:Int)):Typ).2):=⟨qAo (by omega) (by omega),qAo (by omega) (by omega)⟩
 clear H
 obtain⟨rb,hrb⟩:∃r,ruleB x f (o,(j:Int),(l:Int)) ts=r:=⟨_,rfl⟩
 rw[hrb]
 have HRB:=qAZ hrb
 clear hrb
 have HO:=qAZ ho
 clear ho
 go_enter Tryz.func54,Tryz.ntmps54
 go_upto_region 2 with(fail)
 refine qAp fun U hU=> ?_
 have HBU:Hid (Below w.heap.size w U):=by show Below _ _ _;rw[hU];exact((((qAj w _).alloc (by simp) _).alloc qG _).alloc qG _).alloc qG _
 have HMu:Hid (Blk U w.heap.size 28 #[.slice A0 n0 d0,.slice A1 n1 d1,.slice A2 n2 d2,.slice A3 n3 d3,.slice A4 n4 d4]):=by show Blk _ _ _ _;rw[hU];exact qAd (qAd (qAd (qAd (qAz w _ _))))
 have HFu:Hid (Blk U (w.heap.size+1) 61 #[.slice P0 ua c0,.int .i64 f.ret.1,.int .i64 f.ret.2,.slice P1 ul c1,.slice P2 uc c2]):=by show Blk _ _ _ _;rw[hU];exact qAd (qAd (qAd (qAm (by simp))))
 have HIu:Hid (Blk U (w.heap.size+2) 65 #[.int .i64 o,.int .i64 (j:Int),.int .i64 (l:Int)]):=by show Blk _ _ _ _;rw[hU];exact qAd (qAd (qAm (by simp)))
 have HNu:Hid (Blk U (w.heap.size+3) 58 #[.int .i64 1,.int .i64 0]∧Blk U (w.heap.size+4) 58 #[.int .i64 7,.int .i64 0]):=by show _∧_;rw[hU];exact⟨qAd (qAm (by simp)),qAm (by simp)⟩
 have hsU:w.heap.size+5≤U.heap.size:=by rw[hU];simp
 clear hU
 have hiu:=HIu.out.cell 1
 simp only[List.getElem?_toArray,List.getElem?_cons_succ,List.getElem?_cons_zero] at hiu
 go_cut [13,14,15] (fun s13 s14 s15 wx=>∃g1 g2 g3:Nat,s13= .pointer (some ⟨g1,0,none⟩)∧s14= .pointer (some ⟨g2,0,none⟩)∧s15= .pointer (some ⟨g3,0,none⟩)∧Blk wx g1 58 #[.int .i64 2,.int .i64 0]∧Blk wx g2 58 #[.int .i64 3,.int .i64 0]∧Blk wx g3 58 #[.int .i64 4,.int .i64 (j:Int)]∧Below U.heap.size U wx)
 case first=>
  exact qC
 case rest=>
  obtain⟨g1,g2,g3,rfl,rfl,rfl,hB1,hB2,hB3,hbx⟩:=hcut
  go_upto_region 3 with(fail)
  refine qAp fun W hW=> ?_
  rw[←hW] at hB1 hB2 hB3 hbx
  clear hW hiu
  have HX:Hid (Blk W g1 58 #[.int .i64 2,.int .i64 0]∧Blk W g2 58 #[.int .i64 3,.int .i64 0]∧Blk W g3 58 #[.int .i64 4,.int .i64 (j:Int)]):=⟨hB1,hB2,hB3⟩
  have hg1:=hB1.lt
  have hg2:=hB2.lt
  have hg3:=hB3.lt
  have HBW:Hid (Below w.heap.size w W):=HBU.out.trans (hbx.mono HBU.out.size)
  have HM:Hid (Blk W w.heap.size 28 #[.slice A0 n0 d0,.slice A1 n1 d1,.slice A2 n2 d2,.slice A3 n3 d3,.slice A4 n4 d4]):=qAc HMu.out hbx (by omega)
  have HF:Hid (Blk W (w.heap.size+1) 61 #[.slice P0 ua c0,.int .i64 f.ret.1,.int .i64 f.ret.2,.slice P1 ul c1,.slice P2 uc c2]):=qAc HFu.out hbx (by omega)
  have HI:Hid (Blk W (w.heap.size+2) 65 #[.int .i64 o,.int .i64 (j:Int),.int .i64 (l:Int)]):=qAc HIu.out hbx (by omega)
  have HN:Hid (Blk W (w.heap.size+3) 58 #[.int .i64 1,.int .i64 0]∧Blk W (w.heap.size+4) 58 #[.int .i64 7,.int .i64 0]):=⟨qAc HNu.out.1 hbx (by omega),qAc HNu.out.2 hbx (by omega)⟩
  have hsW:w.heap.size+5≤W.heap.size:=qBA hsU hbx.size
  have hop:=HI.out.cell 0
  simp only[List.getElem?_toArray,List.getElem?_cons_zero] at hop
  clear hB1 hB2 hB3 hbx HMu HFu HIu HNu HBU hsU
  have HL:Hid (∀w':World,(∀b,b<W.heap.size→b≠W.heap.size→w'.heap[b]? =W.heap[b]?)→w'.cell? ⟨w.heap.size+3,0,none⟩=some (.int .i64 1)∧w'.cell? ⟨w.heap.size+3,1,none⟩=some (.int .i64 0)∧w'.cell? ⟨w.heap.size+4,0,none⟩=some (.int .i64 7)∧w'.cell? ⟨w.heap.size+4,1,none⟩=some (.int .i64 0)∧w'.cell? ⟨g1,0,none⟩=some (.int .i64 2)∧w'.cell? ⟨g1,1,none⟩=some (.int .i64 0)∧w'.cell? ⟨g2,0,none⟩=some (.int .i64 3)∧w'.cell? ⟨g2,1,none⟩=some (.int .i64 0)∧w'.cell? ⟨g3,0,none⟩=some (.int .i64 4)∧w'.cell? ⟨g3,1,none⟩=some (.int .i64 (j:Int))):=fun w' hk=>⟨(qAb (hk _ qAU qAL)).trans (HN.out.1.cell 0),(qAb (hk _ qAU qAL)).trans (HN.out.1.cell 1),(qAb (hk _ qAX qAP)).trans (HN.out.2.cell 0),(qAb (hk _ qAX qAP)).trans (HN.out.2.cell 1),(qAb (hk _ (by show g1<_;omega) (by show g1≠_;omega))).trans (HX.out.1.cell 0),(qAb (hk _ (by show g1<_;omega) (by show g1≠_;omega))).trans (HX.out.1.cell 1),(qAb (hk _ (by show g2<_;omega) (by show g2≠_;omega))).trans (HX.out.2.1.cell 0),(qAb (hk _ (by show g2<_;omega) (by show g2≠_;omega))).trans (HX.out.2.1.cell 1),(qAb (hk _ jf jP)).trans (HX.out.2.2.cell 0),(qAb (hk _ jf jP)).trans (HX.out.2.2.cell 1)⟩
  have HC:Hid (∀w',Below W.heap.size W w'→w'.cell? ⟨w.heap.size+3,0,none⟩=some (.int .i64 1)∧w'.cell? ⟨w.heap.size+3,1,none⟩=some (.int .i64 0)∧w'.cell? ⟨w.heap.size+4,0,none⟩=some (.int .i64 7)∧w'.cell? ⟨w.heap.size+4,1,none⟩=some (.int .i64 0)∧w'.cell? ⟨g1,0,none⟩=some (.int .i64 2)∧w'.cell? ⟨g1,1,none⟩=some (.int .i64 0)∧w'.cell? ⟨g2,0,none⟩=some (.int .i64 3)∧w'.cell? ⟨g2,1,none⟩=some (.int .i64 0)∧w'.cell? ⟨g3,0,none⟩=some (.int .i64 4)∧w'.cell? ⟨g3,1,none⟩=some (.int .i64 (j:Int))):=fun w' hb=>HL.out w' fun b h1 _=>hb.block b h1
  have HCs:Hid (∀w' u v,Below W.heap.size W w'→((w'.setCell ⟨W.heap.size,0,none⟩ u).setCell ⟨W.heap.size,1,none⟩ v).cell? ⟨w.heap.size+3,0,none⟩=some (.int .i64 1)∧((w'.setCell ⟨W.heap.size,0,none⟩ u).setCell ⟨W.heap.size,1,none⟩ v).cell? ⟨w.heap.size+3,1,none⟩=some (.int .i64 0)∧((w'.setCell ⟨W.heap.size,0,none⟩ u).setCell ⟨W.heap.size,1,none⟩ v).cell? ⟨w.heap.size+4,0,none⟩=some (.int .i64 7)∧((w'.setCell ⟨W.heap.size,0,none⟩ u).setCell ⟨W.heap.size,1,none⟩ v).cell? ⟨w.heap.size+4,1,none⟩=some (.int .i64 0)∧((w'.setCell ⟨W.heap.size,0,none⟩ u).setCell ⟨W.heap.size,1,none⟩ v).cell? ⟨g1,0,none⟩=some (.int .i64 2)∧((w'.setCell ⟨W.heap.size,0,none⟩ u).setCell ⟨W.heap.size,1,none⟩ v).cell? ⟨g1,1,none⟩=some (.int .i64 0)∧((w'.setCell ⟨W.heap.size,0,none⟩ u).setCell ⟨W.heap.size,1,none⟩ v).cell? ⟨g2,0,none⟩=some (.int .i64 3)∧((w'.setCell ⟨W.heap.size,0,none⟩ u).setCell ⟨W.heap.size,1,none⟩ v).cell? ⟨g2,1,none⟩=some (.int .i64 0)∧((w'.setCell ⟨W.heap.size,0,none⟩ u).setCell ⟨W.heap.size,1,none⟩ v).cell? ⟨g3,0,none⟩=some (.int .i64 4)∧((w'.setCell ⟨W.heap.size,0,none⟩ u).setCell ⟨W.heap.size,1,none⟩ v).cell? ⟨g3,1,none⟩=some (.int .i64 (j:Int))):=fun w' u v hb=>HL.out _ fun b h1 h2=>((qAi _ ⟨W.heap.size,1,none⟩ v b h2).trans (qAi _ ⟨W.heap.size,0,none⟩ u b h2)).trans (hb.block b h1)
  have SW:=qAZ (HC.out W (qAe _ _))
  have hnum:I64 ((1:Int)):=qAo (by omega) (by omega)
  obtain⟨z0,z1,z2,z3,z4,z5,z6,z7,z8,z9⟩:=SW.out
  have ho:=HO.out
  clear HO
  rcases ho with rfl|rfl|rfl|rfl|rfl
  · skip
    go_wp2_with fail
    go_ret3
    refine⟨qA,.inr ⟨_,_,_,_,_,_,_,_,HRB.out.symm.trans (by rfl),rfl,?_,?_⟩⟩
    · exact qBO (cs:= #[.int .i64 3,.int .i64 0,.int .i64 1,.int .i64 0,.int .i64 1,.int .i64 0]) (ts:=[(3,0),(1,0),(1,0)]) (by(repeat(first|((with_reducible refine qAm ?_);simp;done)|with_reducible refine qAd ?_|with_reducible refine qAy ?_))) rfl (qAx ⟨qAo (by omega) (by omega),qAo (by omega) (by omega)⟩ (qAx ⟨qAo (by omega) (by omega),qAo (by omega) (by omega)⟩ (qAx ⟨qAo (by omega) (by omega),qAo (by omega) (by omega)⟩ (A64.nil)))) rfl (by omega)
    · exact zp
  · skip
    as_aux_lemma=>
     go_wp2_with fail
     first
     |(go_ret3
       refine⟨qA,.inr ⟨_,_,_,_,_,_,_,_,HRB.out.symm.trans (by rfl),rfl,?_,?_⟩⟩
       · exact zm
       · exact qF)
     |(go_region_held3 (fun w'=>w'.cell? ⟨w.heap.size+3,0,none⟩=some (.int .i64 1)∧w'.cell? ⟨w.heap.size+3,1,none⟩=some (.int .i64 0)∧w'.cell? ⟨w.heap.size+4,0,none⟩=some (.int .i64 7)∧w'.cell? ⟨w.heap.size+4,1,none⟩=some (.int .i64 0)∧w'.cell? ⟨g1,0,none⟩=some (.int .i64 2)∧w'.cell? ⟨g1,1,none⟩=some (.int .i64 0)∧w'.cell? ⟨g2,0,none⟩=some (.int .i64 3)∧w'.cell? ⟨g2,1,none⟩=some (.int .i64 0)∧w'.cell? ⟨g3,0,none⟩=some (.int .i64 4)∧w'.cell? ⟨g3,1,none⟩=some (.int .i64 (j:Int)))
        (first|exact SW.out|exact HC.out _ (qAe _ W).drew|exact HC.out _ (qAj W _).drew|exact HC.out _ ((qAj W _).alloc (by simp) _).drew)
        (fail)
       all_goals
        go_wp2_with fail
        go_ret3
        refine⟨qA,.inr ⟨_,_,_,_,_,_,_,_,HRB.out.symm.trans (by rfl),rfl,?_,?_⟩⟩
        · exact zm
        · exact qF)
  · skip
    as_aux_lemma=>
     go_wp2_with fail
     first
     |(go_ret3
       refine⟨qA,.inr ⟨_,_,_,_,_,_,_,_,HRB.out.symm.trans (by rfl),rfl,?_,?_⟩⟩
       · exact qP
       · exact qb)
     |(go_region_held3 (fun w'=>w'.cell? ⟨w.heap.size+3,0,none⟩=some (.int .i64 1)∧w'.cell? ⟨w.heap.size+3,1,none⟩=some (.int .i64 0)∧w'.cell? ⟨w.heap.size+4,0,none⟩=some (.int .i64 7)∧w'.cell? ⟨w.heap.size+4,1,none⟩=some (.int .i64 0)∧w'.cell? ⟨g1,0,none⟩=some (.int .i64 2)∧w'.cell? ⟨g1,1,none⟩=some (.int .i64 0)∧w'.cell? ⟨g2,0,none⟩=some (.int .i64 3)∧w'.cell? ⟨g2,1,none⟩=some (.int .i64 0)∧w'.cell? ⟨g3,0,none⟩=some (.int .i64 4)∧w'.cell? ⟨g3,1,none⟩=some (.int .i64 (j:Int)))
        (first|exact SW.out|exact HC.out _ (qAe _ W).drew|exact HC.out _ (qAj W _).drew|exact HC.out _ ((qAj W _).alloc (by simp) _).drew)
        (fail)
       all_goals
        go_wp2_with fail
        go_ret3
        refine⟨qA,.inr ⟨_,_,_,_,_,_,_,_,HRB.out.symm.trans (by rfl),rfl,?_,?_⟩⟩
        · exact qP
        · exact qb)
  · skip
    as_aux_lemma=>
     go_wp2_with fail
     first
     |(go_ret3
       refine⟨qA,.inr ⟨_,_,_,_,_,_,_,_,HRB.out.symm.trans (by rfl),rfl,?_,?_⟩⟩
       · exact zL
       · exact qF)
     |(go_region_held3 (fun w'=>w'.cell? ⟨w.heap.size+3,0,none⟩=some (.int .i64 1)∧w'.cell? ⟨w.heap.size+3,1,none⟩=some (.int .i64 0)∧w'.cell? ⟨w.heap.size+4,0,none⟩=some (.int .i64 7)∧w'.cell? ⟨w.heap.size+4,1,none⟩=some (.int .i64 0)∧w'.cell? ⟨g1,0,none⟩=some (.int .i64 2)∧w'.cell? ⟨g1,1,none⟩=some (.int .i64 0)∧w'.cell? ⟨g2,0,none⟩=some (.int .i64 3)∧w'.cell? ⟨g2,1,none⟩=some (.int .i64 0)∧w'.cell? ⟨g3,0,none⟩=some (.int .i64 4)∧w'.cell? ⟨g3,1,none⟩=some (.int .i64 (j:Int)))
        (first|exact SW.out|exact HC.out _ (qAe _ W).drew|exact HC.out _ (qAj W _).drew|exact HC.out _ ((qAj W _).alloc (by simp) _).drew)
        (fail)
       all_goals
        go_wp2_with fail
        go_ret3
        refine⟨qA,.inr ⟨_,_,_,_,_,_,_,_,HRB.out.symm.trans (by rfl),rfl,?_,?_⟩⟩
        · exact zL
        · exact qF)
  · skip
    go_wp2_with fail
    go_ret3
    refine⟨qA,.inr ⟨_,_,_,_,_,_,_,_,HRB.out.symm.trans (by rfl),rfl,?_,?_⟩⟩
    · exact qBO (cs:= #[.int .i64 2,.int .i64 0,.int .i64 1,.int .i64 0,.int .i64 1,.int .i64 0]) (ts:=[(2,0),(1,0),(1,0)]) (by(repeat(first|((with_reducible refine qAm ?_);simp;done)|with_reducible refine qAd ?_|with_reducible refine qAy ?_))) rfl (qAx ⟨qAo (by omega) (by omega),qAo (by omega) (by omega)⟩ (qAx ⟨qAo (by omega) (by omega),qAo (by omega) (by omega)⟩ (qAx ⟨qAo (by omega) (by omega),qAo (by omega) (by omega)⟩ (A64.nil)))) rfl (by omega)
    · exact qBZ _ _ _
end Go.Proofs.YtconajaecpgjgaaGreat
