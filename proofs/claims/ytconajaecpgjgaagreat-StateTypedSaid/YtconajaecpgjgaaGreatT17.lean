/-
Fca
-/
import Derived.Test.YtconajaecpgjgaaGreatT16
set_option linter.unusedSimpArgs false
set_option linter.unusedVariables false
set_option maxRecDepth 100000
set_option maxHeartbeats 4000000
namespace Go.Proofs.YtconajaecpgjgaaGreat
open Go.RowKit
theorem qJQ (A0 A1 A2 A3 A4 P0 P1 P2 D:Option Addr) (n0 n1 n2 n3 n4 d0 d1 d2 d3 d4 ua ul uc c0 c1 c2 k g:Nat) (x:Mod) (f:Fn) (ts:List Typ) (ia ib:Int) (w:World) (H:Cx w A0 A1 A2 A3 A4 P0 P1 P2 D n0 n1 n2 n3 n4 d0 d1 d2 d3 d4 ua ul uc c0 c1 c2 k g x f ts) (hia:I64 ia):Calls Tryz.prog 117 #[.agg #[.slice A0 n0 d0,.slice A1 n1 d1,.slice A2 n2 d2,.slice A3 n3 d3,.slice A4 n4 d4],.agg #[.slice P0 ua c0,.int .i64 f.ret.1,.int .i64 f.ret.2,.slice P1 ul c1,.slice P2 uc c2],.agg #[.int .i64 0,.int .i64 ia,.int .i64 ib],.slice D k g] w (Chgs w.heap.size [] [(1,0)] w):=by
 have HH:=qAZ H
 have TK:=qAZ qA2
 have PU:=qAZ qA6
 have PL1:=qAZ (fun w=>qAw 1 w)
 clear H
 go_enter Tryz.func117,Tryz.ntmps117
 go_upto_region 2 with(first
  |(go_at_call 145;(with_reducible refine(PL1.out _).mono ?_);rintro e w1 ⟨rfl,hb1⟩;have HR1:=qAZ hb1;have hs1:=hb1.size;simp at hs1;clear hb1))
 refine qAp fun W hW=> ?_
 have HBW:Hid (Below w.heap.size w W):=by show Below _ _ _;rw[hW];exact(((((qAj w _).alloc (by simp) _).alloc qG _).alloc qG _).trans (HR1.out.mono qG)).alloc (by omega) _
 have HM:Hid (Blk W w.heap.size 28 #[.slice A0 n0 d0,.slice A1 n1 d1,.slice A2 n2 d2,.slice A3 n3 d3,.slice A4 n4 d4]):=by show Blk _ _ _ _;rw[hW];exact qAd (qAc (qAd (qAd (qAd (qAz w _ _)))) HR1.out qG)
 have HF:Hid (Blk W (w.heap.size+1) 61 #[.slice P0 ua c0,.int .i64 f.ret.1,.int .i64 f.ret.2,.slice P1 ul c1,.slice P2 uc c2]):=by show Blk _ _ _ _;rw[hW];exact qAd (qAc (qAd (qAd (qAm (by simp)))) HR1.out qG)
 have HI:Hid (Blk W (w.heap.size+2) 65 #[.int .i64 0,.int .i64 ia,.int .i64 ib]):=by show Blk _ _ _ _;rw[hW];exact qAd (qAc (qAd (qAm (by simp))) HR1.out qG)
 have HRW:Hid (Blk W (w.heap.size+3) 161 #[.slice none 0 0,.slice none 0 0]):=by show Blk _ _ _ _;rw[hW];exact qAd (qAc (qAm (by simp)) HR1.out qG)
 have HG:Hid (Blk W w1.heap.size 58 #[.int .i64 1,.int .i64 0]):=by show Blk _ _ _ _;rw[hW];exact qAm rfl
 have hg1:w.heap.size+4≤w1.heap.size:=by omega
 have hsW:w1.heap.size+1≤W.heap.size:=by rw[hW];simp
 have hop:=HI.out.cell 0
 simp only[List.getElem?_toArray,List.getElem?_cons_zero] at hop
 clear hW
 have HL:Hid (∀w':World,(∀b,b<W.heap.size→b≠(w.heap.size+3)→w'.heap[b]? =W.heap[b]?)→w'.cell? ⟨w1.heap.size,0,none⟩=some (.int .i64 1)∧w'.cell? ⟨w1.heap.size,1,none⟩=some (.int .i64 0)):=fun w' hk=>⟨(qAb (hk _ jB qy)).trans (HG.out.cell 0),(qAb (hk _ jB qy)).trans (HG.out.cell 1)⟩
 have HC:Hid (∀w',Below W.heap.size W w'→w'.cell? ⟨w1.heap.size,0,none⟩=some (.int .i64 1)∧w'.cell? ⟨w1.heap.size,1,none⟩=some (.int .i64 0)):=fun w' hb=>HL.out w' fun b h1 _=>hb.block b h1
 have HCs:Hid (∀w' u v,Below W.heap.size W w'→((w'.setCell ⟨(w.heap.size+3),0,none⟩ u).setCell ⟨(w.heap.size+3),1,none⟩ v).cell? ⟨w1.heap.size,0,none⟩=some (.int .i64 1)∧((w'.setCell ⟨(w.heap.size+3),0,none⟩ u).setCell ⟨(w.heap.size+3),1,none⟩ v).cell? ⟨w1.heap.size,1,none⟩=some (.int .i64 0)):=fun w' u v hb=>HL.out _ fun b h1 h2=>((qAi _ ⟨(w.heap.size+3),1,none⟩ v b h2).trans (qAi _ ⟨(w.heap.size+3),0,none⟩ u b h2)).trans (hb.block b h1)
 have SW:=qAZ (HC.out W (qAe _ _))
 go_wp2_with fail
 go_region_held3 (fun w'=>w'.cell? ⟨w1.heap.size,0,none⟩=some (.int .i64 1)∧w'.cell? ⟨w1.heap.size,1,none⟩=some (.int .i64 0))
  (first|exact SS5.out|exact SS4.out|(have hz:=HB5.out;clear hz;first|exact HC.out _ (HB5.out.alloc HB5.out.size _)|exact HC.out _ ((HB5.out.alloc HB5.out.size _).alloc qw _))|(have hz:=HB4.out;clear hz;first|exact HC.out _ (HB4.out.alloc HB4.out.size _)|exact HC.out _ ((HB4.out.alloc HB4.out.size _).alloc jC _))|(have hz:=HB5.out;clear hz;exact HCs.out _ _ _ HB5.out)|(have hz:=HB4.out;clear hz;exact HCs.out _ _ _ HB4.out)|exact SW.out|exact HC.out _ (qAe _ W).drew|exact HC.out _ (qAj W _).drew|exact HC.out _ ((qAj W _).alloc (by simp) _).drew)
  (first
    |(go_at_call 146
      with_reducible refine(TK.out _ _ _ _).mono ?_
      rintro e w4 ⟨rfl,hb4⟩
      have HB4:Hid (Below W.heap.size W w4):=qB
      have HR4:=qAZ hb4
      have hs4:=hb4.size
      try simp at hs4
      have HBk4:Hid (Blk w4 (w.heap.size+3) 161 #[.slice none 0 0,.slice none 0 0]):=qAc HRW.out HB4.out (by omega)
      have hra4:=HBk4.out.cell 0
      have hrb4:=HBk4.out.cell 1
      have hfa4:=HBk4.out.frozen 0
      have hfb4:=HBk4.out.frozen 1
      have SS4:=qAZ (HC.out _ HB4.out)
      clear hb4)
    |(go_at_call 147
      with_reducible refine(PU.out _ _ _ _ _ _ _).mono ?_
      rintro e w5 ⟨rfl,hb5⟩
      have HB5:Hid (Below W.heap.size W w5):=qH
      have HR5:=qAZ hb5
      have hs5:=hb5.size
      try simp at hs5
      have HBk5:Hid (Blk w5 (w.heap.size+3) 161 #[.slice none 0 0,.slice none 0 0]):=qAc HRW.out HB5.out (by omega)
      have hra5:=HBk5.out.cell 0
      have hrb5:=HBk5.out.cell 1
      have hfa5:=HBk5.out.frozen 0
      have hfb5:=HBk5.out.frozen 1
      have SS5:=qAZ (HC.out _ HB5.out)
      clear hb5))
 all_goals
  go_wp2_with fail
  refine bodyPost_ret (qBB rfl _ _ rfl (qBH hra5) (qBG hrb5)) rfl ⟨qA0 (HBW.out.trans (HB5.out.mono HBW.out.size)) (by omega),_,_,_,_,_,_,rfl,?_,?_⟩
  · exact zp
  · exact qBK (cs:= #[.int .i64 1,.int .i64 0]) (ts:=[(1,0)]) (by(repeat(first|((with_reducible refine qAm ?_);simp;done)|with_reducible refine qAd ?_|with_reducible refine qAy ?_|with_reducible refine qAq ?_ (by omega)|with_reducible refine qAc ?_ HR5.out qK|with_reducible refine qAc ?_ HR4.out qK|with_reducible exact HRW.out))) (by omega) rfl (qAx ⟨qAo (by omega) (by omega),qAo (by omega) (by omega)⟩ (A64.nil)) rfl (by omega)
theorem qJP (A0 A1 A2 A3 A4 P0 P1 P2 D:Option Addr) (n0 n1 n2 n3 n4 d0 d1 d2 d3 d4 ua ul uc c0 c1 c2 k g:Nat) (x:Mod) (f:Fn) (ts:List Typ) (ia ib:Int) (w:World) (H:Cx w A0 A1 A2 A3 A4 P0 P1 P2 D n0 n1 n2 n3 n4 d0 d1 d2 d3 d4 ua ul uc c0 c1 c2 k g x f ts) (hia:I64 ia):Calls Tryz.prog 117 #[.agg #[.slice A0 n0 d0,.slice A1 n1 d1,.slice A2 n2 d2,.slice A3 n3 d3,.slice A4 n4 d4],.agg #[.slice P0 ua c0,.int .i64 f.ret.1,.int .i64 f.ret.2,.slice P1 ul c1,.slice P2 uc c2],.agg #[.int .i64 1,.int .i64 ia,.int .i64 ib],.slice D k g] w (Chgs w.heap.size [] [(2,0)] w):=by
 have HH:=qAZ H
 have TK:=qAZ qA2
 have PU:=qAZ qA6
 have PL1:=qAZ (fun w=>qAw 1 w)
 clear H
 have PL2:=qAZ (fun w=>qAw 2 w)
 go_enter Tryz.func117,Tryz.ntmps117
 go_upto_region 2 with(first
  |(go_at_call 145;(with_reducible refine(PL1.out _).mono ?_);rintro e w1 ⟨rfl,hb1⟩;have HR1:=qAZ hb1;have hs1:=hb1.size;simp at hs1;clear hb1))
 refine qAp fun W hW=> ?_
 have HBW:Hid (Below w.heap.size w W):=by show Below _ _ _;rw[hW];exact(((((qAj w _).alloc (by simp) _).alloc qG _).alloc qG _).trans (HR1.out.mono qG)).alloc (by omega) _
 have HM:Hid (Blk W w.heap.size 28 #[.slice A0 n0 d0,.slice A1 n1 d1,.slice A2 n2 d2,.slice A3 n3 d3,.slice A4 n4 d4]):=by show Blk _ _ _ _;rw[hW];exact qAd (qAc (qAd (qAd (qAd (qAz w _ _)))) HR1.out qG)
 have HF:Hid (Blk W (w.heap.size+1) 61 #[.slice P0 ua c0,.int .i64 f.ret.1,.int .i64 f.ret.2,.slice P1 ul c1,.slice P2 uc c2]):=by show Blk _ _ _ _;rw[hW];exact qAd (qAc (qAd (qAd (qAm (by simp)))) HR1.out qG)
 have HI:Hid (Blk W (w.heap.size+2) 65 #[.int .i64 1,.int .i64 ia,.int .i64 ib]):=by show Blk _ _ _ _;rw[hW];exact qAd (qAc (qAd (qAm (by simp))) HR1.out qG)
 have HRW:Hid (Blk W (w.heap.size+3) 161 #[.slice none 0 0,.slice none 0 0]):=by show Blk _ _ _ _;rw[hW];exact qAd (qAc (qAm (by simp)) HR1.out qG)
 have HG:Hid (Blk W w1.heap.size 58 #[.int .i64 1,.int .i64 0]):=by show Blk _ _ _ _;rw[hW];exact qAm rfl
 have hg1:w.heap.size+4≤w1.heap.size:=by omega
 have hsW:w1.heap.size+1≤W.heap.size:=by rw[hW];simp
 have hop:=HI.out.cell 0
 simp only[List.getElem?_toArray,List.getElem?_cons_zero] at hop
 clear hW
 have HL:Hid (∀w':World,(∀b,b<W.heap.size→b≠(w.heap.size+3)→w'.heap[b]? =W.heap[b]?)→w'.cell? ⟨w1.heap.size,0,none⟩=some (.int .i64 1)∧w'.cell? ⟨w1.heap.size,1,none⟩=some (.int .i64 0)):=fun w' hk=>⟨(qAb (hk _ jB qy)).trans (HG.out.cell 0),(qAb (hk _ jB qy)).trans (HG.out.cell 1)⟩
 have HC:Hid (∀w',Below W.heap.size W w'→w'.cell? ⟨w1.heap.size,0,none⟩=some (.int .i64 1)∧w'.cell? ⟨w1.heap.size,1,none⟩=some (.int .i64 0)):=fun w' hb=>HL.out w' fun b h1 _=>hb.block b h1
 have HCs:Hid (∀w' u v,Below W.heap.size W w'→((w'.setCell ⟨(w.heap.size+3),0,none⟩ u).setCell ⟨(w.heap.size+3),1,none⟩ v).cell? ⟨w1.heap.size,0,none⟩=some (.int .i64 1)∧((w'.setCell ⟨(w.heap.size+3),0,none⟩ u).setCell ⟨(w.heap.size+3),1,none⟩ v).cell? ⟨w1.heap.size,1,none⟩=some (.int .i64 0)):=fun w' u v hb=>HL.out _ fun b h1 h2=>((qAi _ ⟨(w.heap.size+3),1,none⟩ v b h2).trans (qAi _ ⟨(w.heap.size+3),0,none⟩ u b h2)).trans (hb.block b h1)
 have SW:=qAZ (HC.out W (qAe _ _))
 go_wp2_with (first
  |(go_at_call 146
    with_reducible refine(TK.out _ _ _ _).mono ?_
    rintro e w4 ⟨rfl,hb4⟩
    have HB4:Hid (Below W.heap.size W w4):=qB
    have HR4:=qAZ hb4
    have hs4:=hb4.size
    try simp at hs4
    have HBk4:Hid (Blk w4 (w.heap.size+3) 161 #[.slice none 0 0,.slice none 0 0]):=qAc HRW.out HB4.out (by omega)
    have hra4:=HBk4.out.cell 0
    have hrb4:=HBk4.out.cell 1
    have hfa4:=HBk4.out.frozen 0
    have hfb4:=HBk4.out.frozen 1
    have SS4:=qAZ (HC.out _ HB4.out)
    clear hb4)
  |(go_at_call 145
    with_reducible refine(PL2.out _).mono ?_
    rintro e w5 ⟨rfl,hb5⟩
    have HB5:Hid (Below W.heap.size W w5):=qH
    have HR5:=qAZ hb5
    have hs5:=hb5.size
    try simp at hs5
    have HBk5:Hid (Blk w5 (w.heap.size+3) 161 #[.slice none 0 0,.slice none 0 0]):=qAc HRW.out HB5.out (by omega)
    have hra5:=HBk5.out.cell 0
    have hrb5:=HBk5.out.cell 1
    have hfa5:=HBk5.out.frozen 0
    have hfb5:=HBk5.out.frozen 1
    have SS5:=qAZ (HC.out _ HB5.out)
    clear hb5)
  |(go_at_call 147
    with_reducible refine(PU.out _ _ _ _ _ _ _).mono ?_
    rintro e w6 ⟨rfl,hb6⟩
    have HB6:Hid (Below W.heap.size W w6):=qn
    have HR6:=qAZ hb6
    have hs6:=hb6.size
    try simp at hs6
    have HBk6:Hid (Blk w6 (w.heap.size+3) 161 #[.slice none 0 0,.slice none 0 0]):=qAc HRW.out HB6.out (by omega)
    have hra6:=HBk6.out.cell 0
    have hrb6:=HBk6.out.cell 1
    have hfa6:=HBk6.out.frozen 0
    have hfb6:=HBk6.out.frozen 1
    have SS6:=qAZ (HC.out _ HB6.out)
    clear hb6))
 refine bodyPost_ret (qBB rfl _ _ rfl (qBH hra6) (qBG hrb6)) rfl ⟨qA0 (HBW.out.trans (HB6.out.mono HBW.out.size)) (by omega),_,_,_,_,_,_,rfl,?_,?_⟩
 · exact zp
 · exact qBK (cs:= #[.int .i64 2,.int .i64 0]) (ts:=[(2,0)]) (by(repeat(first|((with_reducible refine qAm ?_);simp;done)|with_reducible refine qAd ?_|with_reducible refine qAy ?_|with_reducible refine qAq ?_ (by omega)|with_reducible refine qAc ?_ HR6.out qK|with_reducible refine qAc ?_ HR5.out qK|with_reducible refine qAc ?_ HR4.out qK|with_reducible exact HRW.out))) (by omega) rfl (qAx ⟨qAo (by omega) (by omega),qAo (by omega) (by omega)⟩ (A64.nil)) rfl (by omega)
theorem qJO (A0 A1 A2 A3 A4 P0 P1 P2 D:Option Addr) (n0 n1 n2 n3 n4 d0 d1 d2 d3 d4 ua ul uc c0 c1 c2 k g:Nat) (x:Mod) (f:Fn) (ts:List Typ) (ia ib:Int) (w:World) (H:Cx w A0 A1 A2 A3 A4 P0 P1 P2 D n0 n1 n2 n3 n4 d0 d1 d2 d3 d4 ua ul uc c0 c1 c2 k g x f ts) (hia:I64 ia):Calls Tryz.prog 117 #[.agg #[.slice A0 n0 d0,.slice A1 n1 d1,.slice A2 n2 d2,.slice A3 n3 d3,.slice A4 n4 d4],.agg #[.slice P0 ua c0,.int .i64 f.ret.1,.int .i64 f.ret.2,.slice P1 ul c1,.slice P2 uc c2],.agg #[.int .i64 2,.int .i64 ia,.int .i64 ib],.slice D k g] w (Chgs w.heap.size [] [(6,0)] w):=by
 have HH:=qAZ H
 have TK:=qAZ qA2
 have PU:=qAZ qA6
 have PL1:=qAZ (fun w=>qAw 1 w)
 clear H
 have PL6:=qAZ (fun w=>qAw 6 w)
 go_enter Tryz.func117,Tryz.ntmps117
 go_upto_region 2 with(first
  |(go_at_call 145;(with_reducible refine(PL1.out _).mono ?_);rintro e w1 ⟨rfl,hb1⟩;have HR1:=qAZ hb1;have hs1:=hb1.size;simp at hs1;clear hb1))
 refine qAp fun W hW=> ?_
 have HBW:Hid (Below w.heap.size w W):=by show Below _ _ _;rw[hW];exact(((((qAj w _).alloc (by simp) _).alloc qG _).alloc qG _).trans (HR1.out.mono qG)).alloc (by omega) _
 have HM:Hid (Blk W w.heap.size 28 #[.slice A0 n0 d0,.slice A1 n1 d1,.slice A2 n2 d2,.slice A3 n3 d3,.slice A4 n4 d4]):=by show Blk _ _ _ _;rw[hW];exact qAd (qAc (qAd (qAd (qAd (qAz w _ _)))) HR1.out qG)
 have HF:Hid (Blk W (w.heap.size+1) 61 #[.slice P0 ua c0,.int .i64 f.ret.1,.int .i64 f.ret.2,.slice P1 ul c1,.slice P2 uc c2]):=by show Blk _ _ _ _;rw[hW];exact qAd (qAc (qAd (qAd (qAm (by simp)))) HR1.out qG)
 have HI:Hid (Blk W (w.heap.size+2) 65 #[.int .i64 2,.int .i64 ia,.int .i64 ib]):=by show Blk _ _ _ _;rw[hW];exact qAd (qAc (qAd (qAm (by simp))) HR1.out qG)
 have HRW:Hid (Blk W (w.heap.size+3) 161 #[.slice none 0 0,.slice none 0 0]):=by show Blk _ _ _ _;rw[hW];exact qAd (qAc (qAm (by simp)) HR1.out qG)
 have HG:Hid (Blk W w1.heap.size 58 #[.int .i64 1,.int .i64 0]):=by show Blk _ _ _ _;rw[hW];exact qAm rfl
 have hg1:w.heap.size+4≤w1.heap.size:=by omega
 have hsW:w1.heap.size+1≤W.heap.size:=by rw[hW];simp
 have hop:=HI.out.cell 0
 simp only[List.getElem?_toArray,List.getElem?_cons_zero] at hop
 clear hW
 have HL:Hid (∀w':World,(∀b,b<W.heap.size→b≠(w.heap.size+3)→w'.heap[b]? =W.heap[b]?)→w'.cell? ⟨w1.heap.size,0,none⟩=some (.int .i64 1)∧w'.cell? ⟨w1.heap.size,1,none⟩=some (.int .i64 0)):=fun w' hk=>⟨(qAb (hk _ jB qy)).trans (HG.out.cell 0),(qAb (hk _ jB qy)).trans (HG.out.cell 1)⟩
 have HC:Hid (∀w',Below W.heap.size W w'→w'.cell? ⟨w1.heap.size,0,none⟩=some (.int .i64 1)∧w'.cell? ⟨w1.heap.size,1,none⟩=some (.int .i64 0)):=fun w' hb=>HL.out w' fun b h1 _=>hb.block b h1
 have HCs:Hid (∀w' u v,Below W.heap.size W w'→((w'.setCell ⟨(w.heap.size+3),0,none⟩ u).setCell ⟨(w.heap.size+3),1,none⟩ v).cell? ⟨w1.heap.size,0,none⟩=some (.int .i64 1)∧((w'.setCell ⟨(w.heap.size+3),0,none⟩ u).setCell ⟨(w.heap.size+3),1,none⟩ v).cell? ⟨w1.heap.size,1,none⟩=some (.int .i64 0)):=fun w' u v hb=>HL.out _ fun b h1 h2=>((qAi _ ⟨(w.heap.size+3),1,none⟩ v b h2).trans (qAi _ ⟨(w.heap.size+3),0,none⟩ u b h2)).trans (hb.block b h1)
 have SW:=qAZ (HC.out W (qAe _ _))
 go_wp2_with (first
  |(go_at_call 146
    with_reducible refine(TK.out _ _ _ _).mono ?_
    rintro e w4 ⟨rfl,hb4⟩
    have HB4:Hid (Below W.heap.size W w4):=qB
    have HR4:=qAZ hb4
    have hs4:=hb4.size
    try simp at hs4
    have HBk4:Hid (Blk w4 (w.heap.size+3) 161 #[.slice none 0 0,.slice none 0 0]):=qAc HRW.out HB4.out (by omega)
    have hra4:=HBk4.out.cell 0
    have hrb4:=HBk4.out.cell 1
    have hfa4:=HBk4.out.frozen 0
    have hfb4:=HBk4.out.frozen 1
    have SS4:=qAZ (HC.out _ HB4.out)
    clear hb4)
  |(go_at_call 145
    with_reducible refine(PL6.out _).mono ?_
    rintro e w5 ⟨rfl,hb5⟩
    have HB5:Hid (Below W.heap.size W w5):=qH
    have HR5:=qAZ hb5
    have hs5:=hb5.size
    try simp at hs5
    have HBk5:Hid (Blk w5 (w.heap.size+3) 161 #[.slice none 0 0,.slice none 0 0]):=qAc HRW.out HB5.out (by omega)
    have hra5:=HBk5.out.cell 0
    have hrb5:=HBk5.out.cell 1
    have hfa5:=HBk5.out.frozen 0
    have hfb5:=HBk5.out.frozen 1
    have SS5:=qAZ (HC.out _ HB5.out)
    clear hb5)
  |(go_at_call 147
    with_reducible refine(PU.out _ _ _ _ _ _ _).mono ?_
    rintro e w6 ⟨rfl,hb6⟩
    have HB6:Hid (Below W.heap.size W w6):=qn
    have HR6:=qAZ hb6
    have hs6:=hb6.size
    try simp at hs6
    have HBk6:Hid (Blk w6 (w.heap.size+3) 161 #[.slice none 0 0,.slice none 0 0]):=qAc HRW.out HB6.out (by omega)
    have hra6:=HBk6.out.cell 0
    have hrb6:=HBk6.out.cell 1
    have hfa6:=HBk6.out.frozen 0
    have hfb6:=HBk6.out.frozen 1
    have SS6:=qAZ (HC.out _ HB6.out)
    clear hb6))
 refine bodyPost_ret (qBB rfl _ _ rfl (qBH hra6) (qBG hrb6)) rfl ⟨qA0 (HBW.out.trans (HB6.out.mono HBW.out.size)) (by omega),_,_,_,_,_,_,rfl,?_,?_⟩
 · exact zp
 · exact qBK (cs:= #[.int .i64 6,.int .i64 0]) (ts:=[(6,0)]) (by(repeat(first|((with_reducible refine qAm ?_);simp;done)|with_reducible refine qAd ?_|with_reducible refine qAy ?_|with_reducible refine qAq ?_ (by omega)|with_reducible refine qAc ?_ HR6.out qK|with_reducible refine qAc ?_ HR5.out qK|with_reducible refine qAc ?_ HR4.out qK|with_reducible exact HRW.out))) (by omega) rfl (qAx ⟨qAo (by omega) (by omega),qAo (by omega) (by omega)⟩ (A64.nil)) rfl (by omega)
theorem qJN (A0 A1 A2 A3 A4 P0 P1 P2 D:Option Addr) (n0 n1 n2 n3 n4 d0 d1 d2 d3 d4 ua ul uc c0 c1 c2 k g:Nat) (x:Mod) (f:Fn) (ts:List Typ) (ia ib:Int) (w:World) (H:Cx w A0 A1 A2 A3 A4 P0 P1 P2 D n0 n1 n2 n3 n4 d0 d1 d2 d3 d4 ua ul uc c0 c1 c2 k g x f ts) (hia:I64 ia):Calls Tryz.prog 117 #[.agg #[.slice A0 n0 d0,.slice A1 n1 d1,.slice A2 n2 d2,.slice A3 n3 d3,.slice A4 n4 d4],.agg #[.slice P0 ua c0,.int .i64 f.ret.1,.int .i64 f.ret.2,.slice P1 ul c1,.slice P2 uc c2],.agg #[.int .i64 3,.int .i64 ia,.int .i64 ib],.slice D k g] w (Chgs w.heap.size [] [locB f ia] w):=by
 have HH:=qAZ H
 have TK:=qAZ qA2
 have PU:=qAZ qA6
 have PL1:=qAZ (fun w=>qAw 1 w)
 clear H
 have LCc:Hid (∀v,Below w.heap.size w v→Calls Tryz.prog 148 #[.agg #[.slice P0 ua c0,.int .i64 f.ret.1,.int .i64 f.ret.2,.slice P1 ul c1,.slice P2 uc c2],.int .i64 ia] v (TypIs (locB f ia) v)):=fun v hb=>qEc P0 P1 P2 ua ul uc c0 c1 c2 f.ret.1 f.ret.2 f ia v HH.out.g0 HH.out.g1 ((HH.out.t0.below hb (qAf _)).wide fun i hi=>qAg hi hb.size) ((HH.out.t1.below hb (qAf _)).wide fun i hi=>qAg hi hb.size) (by have:=HH.out.b3;omega) (by have:=HH.out.b4;omega) hia
 have H64:=qAZ (qDn (n:=ia) HH.out.t0.a64 HH.out.t1.a64)
 generalize locB f ia=t at*
 go_enter Tryz.func117,Tryz.ntmps117
 go_upto_region 2 with(first
  |(go_at_call 145;(with_reducible refine(PL1.out _).mono ?_);rintro e w1 ⟨rfl,hb1⟩;have HR1:=qAZ hb1;have hs1:=hb1.size;simp at hs1;clear hb1))
 refine qAp fun W hW=> ?_
 have HBW:Hid (Below w.heap.size w W):=by show Below _ _ _;rw[hW];exact(((((qAj w _).alloc (by simp) _).alloc qG _).alloc qG _).trans (HR1.out.mono qG)).alloc (by omega) _
 have HM:Hid (Blk W w.heap.size 28 #[.slice A0 n0 d0,.slice A1 n1 d1,.slice A2 n2 d2,.slice A3 n3 d3,.slice A4 n4 d4]):=by show Blk _ _ _ _;rw[hW];exact qAd (qAc (qAd (qAd (qAd (qAz w _ _)))) HR1.out qG)
 have HF:Hid (Blk W (w.heap.size+1) 61 #[.slice P0 ua c0,.int .i64 f.ret.1,.int .i64 f.ret.2,.slice P1 ul c1,.slice P2 uc c2]):=by show Blk _ _ _ _;rw[hW];exact qAd (qAc (qAd (qAd (qAm (by simp)))) HR1.out qG)
 have HI:Hid (Blk W (w.heap.size+2) 65 #[.int .i64 3,.int .i64 ia,.int .i64 ib]):=by show Blk _ _ _ _;rw[hW];exact qAd (qAc (qAd (qAm (by simp))) HR1.out qG)
 have HRW:Hid (Blk W (w.heap.size+3) 161 #[.slice none 0 0,.slice none 0 0]):=by show Blk _ _ _ _;rw[hW];exact qAd (qAc (qAm (by simp)) HR1.out qG)
 have HG:Hid (Blk W w1.heap.size 58 #[.int .i64 1,.int .i64 0]):=by show Blk _ _ _ _;rw[hW];exact qAm rfl
 have hg1:w.heap.size+4≤w1.heap.size:=by omega
 have hsW:w1.heap.size+1≤W.heap.size:=by rw[hW];simp
 have hop:=HI.out.cell 0
 simp only[List.getElem?_toArray,List.getElem?_cons_zero] at hop
 clear hW
 have HL:Hid (∀w':World,(∀b,b<W.heap.size→b≠(w.heap.size+3)→w'.heap[b]? =W.heap[b]?)→w'.cell? ⟨w.heap.size+1,0,none⟩=some (.slice P0 ua c0)∧w'.cell? ⟨w.heap.size+1,1,none⟩=some (.int .i64 f.ret.1)∧w'.cell? ⟨w.heap.size+1,2,none⟩=some (.int .i64 f.ret.2)∧w'.cell? ⟨w.heap.size+1,3,none⟩=some (.slice P1 ul c1)∧w'.cell? ⟨w.heap.size+1,4,none⟩=some (.slice P2 uc c2)∧w'.cell? ⟨w.heap.size+2,1,none⟩=some (.int .i64 ia)):=fun w' hk=>⟨(qAb (hk _ qAJ jd)).trans (HF.out.cell 0),(qAb (hk _ qAJ jd)).trans (HF.out.cell 1),(qAb (hk _ qAJ jd)).trans (HF.out.cell 2),(qAb (hk _ qAJ jd)).trans (HF.out.cell 3),(qAb (hk _ qAJ jd)).trans (HF.out.cell 4),(qAb (hk _ zw qU)).trans (HI.out.cell 1)⟩
 have HC:Hid (∀w',Below W.heap.size W w'→w'.cell? ⟨w.heap.size+1,0,none⟩=some (.slice P0 ua c0)∧w'.cell? ⟨w.heap.size+1,1,none⟩=some (.int .i64 f.ret.1)∧w'.cell? ⟨w.heap.size+1,2,none⟩=some (.int .i64 f.ret.2)∧w'.cell? ⟨w.heap.size+1,3,none⟩=some (.slice P1 ul c1)∧w'.cell? ⟨w.heap.size+1,4,none⟩=some (.slice P2 uc c2)∧w'.cell? ⟨w.heap.size+2,1,none⟩=some (.int .i64 ia)):=fun w' hb=>HL.out w' fun b h1 _=>hb.block b h1
 have HCs:Hid (∀w' u v,Below W.heap.size W w'→((w'.setCell ⟨(w.heap.size+3),0,none⟩ u).setCell ⟨(w.heap.size+3),1,none⟩ v).cell? ⟨w.heap.size+1,0,none⟩=some (.slice P0 ua c0)∧((w'.setCell ⟨(w.heap.size+3),0,none⟩ u).setCell ⟨(w.heap.size+3),1,none⟩ v).cell? ⟨w.heap.size+1,1,none⟩=some (.int .i64 f.ret.1)∧((w'.setCell ⟨(w.heap.size+3),0,none⟩ u).setCell ⟨(w.heap.size+3),1,none⟩ v).cell? ⟨w.heap.size+1,2,none⟩=some (.int .i64 f.ret.2)∧((w'.setCell ⟨(w.heap.size+3),0,none⟩ u).setCell ⟨(w.heap.size+3),1,none⟩ v).cell? ⟨w.heap.size+1,3,none⟩=some (.slice P1 ul c1)∧((w'.setCell ⟨(w.heap.size+3),0,none⟩ u).setCell ⟨(w.heap.size+3),1,none⟩ v).cell? ⟨w.heap.size+1,4,none⟩=some (.slice P2 uc c2)∧((w'.setCell ⟨(w.heap.size+3),0,none⟩ u).setCell ⟨(w.heap.size+3),1,none⟩ v).cell? ⟨w.heap.size+2,1,none⟩=some (.int .i64 ia)):=fun w' u v hb=>HL.out _ fun b h1 h2=>((qAi _ ⟨(w.heap.size+3),1,none⟩ v b h2).trans (qAi _ ⟨(w.heap.size+3),0,none⟩ u b h2)).trans (hb.block b h1)
 have SW:=qAZ (HC.out W (qAe _ _))
 go_wp2_with fail
 go_region_held3 (fun w'=>w'.cell? ⟨w.heap.size+1,0,none⟩=some (.slice P0 ua c0)∧w'.cell? ⟨w.heap.size+1,1,none⟩=some (.int .i64 f.ret.1)∧w'.cell? ⟨w.heap.size+1,2,none⟩=some (.int .i64 f.ret.2)∧w'.cell? ⟨w.heap.size+1,3,none⟩=some (.slice P1 ul c1)∧w'.cell? ⟨w.heap.size+1,4,none⟩=some (.slice P2 uc c2)∧w'.cell? ⟨w.heap.size+2,1,none⟩=some (.int .i64 ia))
  (first|exact SS6.out|exact SS5.out|exact SS4.out|(have hz:=HB6.out;clear hz;first|exact HC.out _ (HB6.out.alloc HB6.out.size _)|exact HC.out _ ((HB6.out.alloc HB6.out.size _).alloc (by have:=HB6.out.size;simp;omega) _))|(have hz:=HB5.out;clear hz;first|exact HC.out _ (HB5.out.alloc HB5.out.size _)|exact HC.out _ ((HB5.out.alloc HB5.out.size _).alloc qw _))|(have hz:=HB4.out;clear hz;first|exact HC.out _ (HB4.out.alloc HB4.out.size _)|exact HC.out _ ((HB4.out.alloc HB4.out.size _).alloc jC _))|(have hz:=HB6.out;clear hz;exact HCs.out _ _ _ HB6.out)|(have hz:=HB5.out;clear hz;exact HCs.out _ _ _ HB5.out)|(have hz:=HB4.out;clear hz;exact HCs.out _ _ _ HB4.out)|exact SW.out|exact HC.out _ (qAe _ W).drew|exact HC.out _ (qAj W _).drew|exact HC.out _ ((qAj W _).alloc (by simp) _).drew)
  (first
    |(go_at_call 146
      with_reducible refine(TK.out _ _ _ _).mono ?_
      rintro e w4 ⟨rfl,hb4⟩
      have HB4:Hid (Below W.heap.size W w4):=qB
      have HR4:=qAZ hb4
      have hs4:=hb4.size
      try simp at hs4
      have HBk4:Hid (Blk w4 (w.heap.size+3) 161 #[.slice none 0 0,.slice none 0 0]):=qAc HRW.out HB4.out (by omega)
      have hra4:=HBk4.out.cell 0
      have hrb4:=HBk4.out.cell 1
      have hfa4:=HBk4.out.frozen 0
      have hfb4:=HBk4.out.frozen 1
      have SS4:=qAZ (HC.out _ HB4.out)
      clear hb4)
    |(go_at_call 148
      refine(LCc.out _ (HBW.out.trans (HB4.out.mono HBW.out.size))).mono ?_
      rintro e w5 ⟨rfl,hb5⟩
      have HB5:Hid (Below W.heap.size W w5):=qH
      have HR5:=qAZ hb5
      have hs5:=hb5.size
      try simp at hs5
      have HBk5:Hid (Blk w5 (w.heap.size+3) 161 #[.slice none 0 0,.slice none 0 0]):=qAc HRW.out HB5.out (by omega)
      have hra5:=HBk5.out.cell 0
      have hrb5:=HBk5.out.cell 1
      have hfa5:=HBk5.out.frozen 0
      have hfb5:=HBk5.out.frozen 1
      have SS5:=qAZ (HC.out _ HB5.out)
      clear hb5)
    |(go_at_call 147
      with_reducible refine(PU.out _ _ _ _ _ _ _).mono ?_
      rintro e w6 ⟨rfl,hb6⟩
      have HB6:Hid (Below W.heap.size W w6):=qn
      have HR6:=qAZ hb6
      have hs6:=hb6.size
      try simp at hs6
      have HBk6:Hid (Blk w6 (w.heap.size+3) 161 #[.slice none 0 0,.slice none 0 0]):=qAc HRW.out HB6.out (by omega)
      have hra6:=HBk6.out.cell 0
      have hrb6:=HBk6.out.cell 1
      have hfa6:=HBk6.out.frozen 0
      have hfb6:=HBk6.out.frozen 1
      have SS6:=qAZ (HC.out _ HB6.out)
      clear hb6))
 all_goals
  go_wp2_with fail
  refine bodyPost_ret (qBB rfl _ _ rfl (qBH hra6) (qBG hrb6)) rfl ⟨qA0 (HBW.out.trans (HB6.out.mono HBW.out.size)) (by omega),_,_,_,_,_,_,rfl,?_,?_⟩
  · exact zp
  · exact qBK (cs:= #[.int .i64 t.1,.int .i64 t.2]) (ts:=[t]) (by(repeat(first|((with_reducible refine qAm ?_);simp;done)|with_reducible refine qAd ?_|with_reducible refine qAy ?_|with_reducible refine qAq ?_ (by omega)|with_reducible refine qAc ?_ HR6.out qK|with_reducible refine qAc ?_ HR5.out qK|with_reducible refine qAc ?_ HR4.out qK|with_reducible exact HRW.out))) (by omega) rfl (qAx H64.out (A64.nil)) rfl (by omega)
theorem qJM (A0 A1 A2 A3 A4 P0 P1 P2 D:Option Addr) (n0 n1 n2 n3 n4 d0 d1 d2 d3 d4 ua ul uc c0 c1 c2 k g:Nat) (x:Mod) (f:Fn) (ts:List Typ) (ia ib:Int) (w:World) (H:Cx w A0 A1 A2 A3 A4 P0 P1 P2 D n0 n1 n2 n3 n4 d0 d1 d2 d3 d4 ua ul uc c0 c1 c2 k g x f ts) (hia:I64 ia):Calls Tryz.prog 117 #[.agg #[.slice A0 n0 d0,.slice A1 n1 d1,.slice A2 n2 d2,.slice A3 n3 d3,.slice A4 n4 d4],.agg #[.slice P0 ua c0,.int .i64 f.ret.1,.int .i64 f.ret.2,.slice P1 ul c1,.slice P2 uc c2],.agg #[.int .i64 4,.int .i64 ia,.int .i64 ib],.slice D k g] w (Chgs w.heap.size [locB f ia] [] w):=by
 have HH:=qAZ H
 have TK:=qAZ qA2
 have PU:=qAZ qA6
 have PL1:=qAZ (fun w=>qAw 1 w)
 clear H
 have LCc:Hid (∀v,Below w.heap.size w v→Calls Tryz.prog 148 #[.agg #[.slice P0 ua c0,.int .i64 f.ret.1,.int .i64 f.ret.2,.slice P1 ul c1,.slice P2 uc c2],.int .i64 ia] v (TypIs (locB f ia) v)):=fun v hb=>qEc P0 P1 P2 ua ul uc c0 c1 c2 f.ret.1 f.ret.2 f ia v HH.out.g0 HH.out.g1 ((HH.out.t0.below hb (qAf _)).wide fun i hi=>qAg hi hb.size) ((HH.out.t1.below hb (qAf _)).wide fun i hi=>qAg hi hb.size) (by have:=HH.out.b3;omega) (by have:=HH.out.b4;omega) hia
 have H64:=qAZ (qDn (n:=ia) HH.out.t0.a64 HH.out.t1.a64)
 generalize locB f ia=t at*
 go_enter Tryz.func117,Tryz.ntmps117
 go_upto_region 2 with(first
  |(go_at_call 145;(with_reducible refine(PL1.out _).mono ?_);rintro e w1 ⟨rfl,hb1⟩;have HR1:=qAZ hb1;have hs1:=hb1.size;simp at hs1;clear hb1))
 refine qAp fun W hW=> ?_
 have HBW:Hid (Below w.heap.size w W):=by show Below _ _ _;rw[hW];exact(((((qAj w _).alloc (by simp) _).alloc qG _).alloc qG _).trans (HR1.out.mono qG)).alloc (by omega) _
 have HM:Hid (Blk W w.heap.size 28 #[.slice A0 n0 d0,.slice A1 n1 d1,.slice A2 n2 d2,.slice A3 n3 d3,.slice A4 n4 d4]):=by show Blk _ _ _ _;rw[hW];exact qAd (qAc (qAd (qAd (qAd (qAz w _ _)))) HR1.out qG)
 have HF:Hid (Blk W (w.heap.size+1) 61 #[.slice P0 ua c0,.int .i64 f.ret.1,.int .i64 f.ret.2,.slice P1 ul c1,.slice P2 uc c2]):=by show Blk _ _ _ _;rw[hW];exact qAd (qAc (qAd (qAd (qAm (by simp)))) HR1.out qG)
 have HI:Hid (Blk W (w.heap.size+2) 65 #[.int .i64 4,.int .i64 ia,.int .i64 ib]):=by show Blk _ _ _ _;rw[hW];exact qAd (qAc (qAd (qAm (by simp))) HR1.out qG)
 have HRW:Hid (Blk W (w.heap.size+3) 161 #[.slice none 0 0,.slice none 0 0]):=by show Blk _ _ _ _;rw[hW];exact qAd (qAc (qAm (by simp)) HR1.out qG)
 have HG:Hid (Blk W w1.heap.size 58 #[.int .i64 1,.int .i64 0]):=by show Blk _ _ _ _;rw[hW];exact qAm rfl
 have hg1:w.heap.size+4≤w1.heap.size:=by omega
 have hsW:w1.heap.size+1≤W.heap.size:=by rw[hW];simp
 have hop:=HI.out.cell 0
 simp only[List.getElem?_toArray,List.getElem?_cons_zero] at hop
 clear hW
 have HL:Hid (∀w':World,(∀b,b<W.heap.size→b≠(w.heap.size+3)→w'.heap[b]? =W.heap[b]?)→w'.cell? ⟨w.heap.size+1,0,none⟩=some (.slice P0 ua c0)∧w'.cell? ⟨w.heap.size+1,1,none⟩=some (.int .i64 f.ret.1)∧w'.cell? ⟨w.heap.size+1,2,none⟩=some (.int .i64 f.ret.2)∧w'.cell? ⟨w.heap.size+1,3,none⟩=some (.slice P1 ul c1)∧w'.cell? ⟨w.heap.size+1,4,none⟩=some (.slice P2 uc c2)∧w'.cell? ⟨w.heap.size+2,1,none⟩=some (.int .i64 ia)):=fun w' hk=>⟨(qAb (hk _ qAJ jd)).trans (HF.out.cell 0),(qAb (hk _ qAJ jd)).trans (HF.out.cell 1),(qAb (hk _ qAJ jd)).trans (HF.out.cell 2),(qAb (hk _ qAJ jd)).trans (HF.out.cell 3),(qAb (hk _ qAJ jd)).trans (HF.out.cell 4),(qAb (hk _ zw qU)).trans (HI.out.cell 1)⟩
 have HC:Hid (∀w',Below W.heap.size W w'→w'.cell? ⟨w.heap.size+1,0,none⟩=some (.slice P0 ua c0)∧w'.cell? ⟨w.heap.size+1,1,none⟩=some (.int .i64 f.ret.1)∧w'.cell? ⟨w.heap.size+1,2,none⟩=some (.int .i64 f.ret.2)∧w'.cell? ⟨w.heap.size+1,3,none⟩=some (.slice P1 ul c1)∧w'.cell? ⟨w.heap.size+1,4,none⟩=some (.slice P2 uc c2)∧w'.cell? ⟨w.heap.size+2,1,none⟩=some (.int .i64 ia)):=fun w' hb=>HL.out w' fun b h1 _=>hb.block b h1
 have HCs:Hid (∀w' u v,Below W.heap.size W w'→((w'.setCell ⟨(w.heap.size+3),0,none⟩ u).setCell ⟨(w.heap.size+3),1,none⟩ v).cell? ⟨w.heap.size+1,0,none⟩=some (.slice P0 ua c0)∧((w'.setCell ⟨(w.heap.size+3),0,none⟩ u).setCell ⟨(w.heap.size+3),1,none⟩ v).cell? ⟨w.heap.size+1,1,none⟩=some (.int .i64 f.ret.1)∧((w'.setCell ⟨(w.heap.size+3),0,none⟩ u).setCell ⟨(w.heap.size+3),1,none⟩ v).cell? ⟨w.heap.size+1,2,none⟩=some (.int .i64 f.ret.2)∧((w'.setCell ⟨(w.heap.size+3),0,none⟩ u).setCell ⟨(w.heap.size+3),1,none⟩ v).cell? ⟨w.heap.size+1,3,none⟩=some (.slice P1 ul c1)∧((w'.setCell ⟨(w.heap.size+3),0,none⟩ u).setCell ⟨(w.heap.size+3),1,none⟩ v).cell? ⟨w.heap.size+1,4,none⟩=some (.slice P2 uc c2)∧((w'.setCell ⟨(w.heap.size+3),0,none⟩ u).setCell ⟨(w.heap.size+3),1,none⟩ v).cell? ⟨w.heap.size+2,1,none⟩=some (.int .i64 ia)):=fun w' u v hb=>HL.out _ fun b h1 h2=>((qAi _ ⟨(w.heap.size+3),1,none⟩ v b h2).trans (qAi _ ⟨(w.heap.size+3),0,none⟩ u b h2)).trans (hb.block b h1)
 have SW:=qAZ (HC.out W (qAe _ _))
 obtain⟨z0,z1,z2,z3,z4,z5⟩:=SW.out
 go_wp2_with (first
  |(go_at_call 148
    refine(LCc.out _ HBW.out).mono ?_
    rintro e w4 ⟨rfl,hb4⟩
    have HB4:Hid (Below W.heap.size W w4):=qB
    have HR4:=qAZ hb4
    have hs4:=hb4.size
    try simp at hs4
    have HBk4:Hid (Blk w4 (w.heap.size+3) 161 #[.slice none 0 0,.slice none 0 0]):=qAc HRW.out HB4.out (by omega)
    have hra4:=HBk4.out.cell 0
    have hrb4:=HBk4.out.cell 1
    have hfa4:=HBk4.out.frozen 0
    have hfb4:=HBk4.out.frozen 1
    have SS4:=qAZ (HC.out _ HB4.out)
    clear hb4)
  |(go_at_call 146
    with_reducible refine(TK.out _ _ _ _).mono ?_
    rintro e w5 ⟨rfl,hb5⟩
    have HB5:Hid (Below W.heap.size W w5):=qH
    have HR5:=qAZ hb5
    have hs5:=hb5.size
    try simp at hs5
    have HBk5:Hid (Blk w5 (w.heap.size+3) 161 #[.slice none 0 0,.slice none 0 0]):=qAc HRW.out HB5.out (by omega)
    have hra5:=HBk5.out.cell 0
    have hrb5:=HBk5.out.cell 1
    have hfa5:=HBk5.out.frozen 0
    have hfb5:=HBk5.out.frozen 1
    have SS5:=qAZ (HC.out _ HB5.out)
    clear hb5))
 refine bodyPost_ret (qBB rfl _ _ rfl (qBH hra5) (qBG hrb5)) rfl ⟨qA0 (HBW.out.trans (HB5.out.mono HBW.out.size)) (by omega),_,_,_,_,_,_,rfl,?_,?_⟩
 · exact qBK (cs:= #[.int .i64 t.1,.int .i64 t.2]) (ts:=[t]) (by(repeat(first|((with_reducible refine qAm ?_);simp;done)|with_reducible refine qAd ?_|with_reducible refine qAy ?_|with_reducible refine qAq ?_ (by omega)|with_reducible refine qAc ?_ HR5.out qK|with_reducible refine qAc ?_ HR4.out qK|with_reducible exact HRW.out))) (by omega) rfl (qAx H64.out (A64.nil)) rfl (by omega)
 · exact zp
theorem qJL (A0 A1 A2 A3 A4 P0 P1 P2 D:Option Addr) (n0 n1 n2 n3 n4 d0 d1 d2 d3 d4 ua ul uc c0 c1 c2 k g:Nat) (x:Mod) (f:Fn) (ts:List Typ) (ia ib:Int) (w:World) (H:Cx w A0 A1 A2 A3 A4 P0 P1 P2 D n0 n1 n2 n3 n4 d0 d1 d2 d3 d4 ua ul uc c0 c1 c2 k g x f ts) (hia:I64 ia):Calls Tryz.prog 117 #[.agg #[.slice A0 n0 d0,.slice A1 n1 d1,.slice A2 n2 d2,.slice A3 n3 d3,.slice A4 n4 d4],.agg #[.slice P0 ua c0,.int .i64 f.ret.1,.int .i64 f.ret.2,.slice P1 ul c1,.slice P2 uc c2],.agg #[.int .i64 5,.int .i64 ia,.int .i64 ib],.slice D k g] w (Chgs w.heap.size [(8,0)] [] w):=by
 have HH:=qAZ H
 have TK:=qAZ qA2
 have PU:=qAZ qA6
 have PL1:=qAZ (fun w=>qAw 1 w)
 clear H
 have PL8:=qAZ (fun w=>qAw 8 w)
 go_enter Tryz.func117,Tryz.ntmps117
 go_upto_region 2 with(first
  |(go_at_call 145;(with_reducible refine(PL1.out _).mono ?_);rintro e w1 ⟨rfl,hb1⟩;have HR1:=qAZ hb1;have hs1:=hb1.size;simp at hs1;clear hb1))
 refine qAp fun W hW=> ?_
 have HBW:Hid (Below w.heap.size w W):=by show Below _ _ _;rw[hW];exact(((((qAj w _).alloc (by simp) _).alloc qG _).alloc qG _).trans (HR1.out.mono qG)).alloc (by omega) _
 have HM:Hid (Blk W w.heap.size 28 #[.slice A0 n0 d0,.slice A1 n1 d1,.slice A2 n2 d2,.slice A3 n3 d3,.slice A4 n4 d4]):=by show Blk _ _ _ _;rw[hW];exact qAd (qAc (qAd (qAd (qAd (qAz w _ _)))) HR1.out qG)
 have HF:Hid (Blk W (w.heap.size+1) 61 #[.slice P0 ua c0,.int .i64 f.ret.1,.int .i64 f.ret.2,.slice P1 ul c1,.slice P2 uc c2]):=by show Blk _ _ _ _;rw[hW];exact qAd (qAc (qAd (qAd (qAm (by simp)))) HR1.out qG)
 have HI:Hid (Blk W (w.heap.size+2) 65 #[.int .i64 5,.int .i64 ia,.int .i64 ib]):=by show Blk _ _ _ _;rw[hW];exact qAd (qAc (qAd (qAm (by simp))) HR1.out qG)
 have HRW:Hid (Blk W (w.heap.size+3) 161 #[.slice none 0 0,.slice none 0 0]):=by show Blk _ _ _ _;rw[hW];exact qAd (qAc (qAm (by simp)) HR1.out qG)
 have HG:Hid (Blk W w1.heap.size 58 #[.int .i64 1,.int .i64 0]):=by show Blk _ _ _ _;rw[hW];exact qAm rfl
 have hg1:w.heap.size+4≤w1.heap.size:=by omega
 have hsW:w1.heap.size+1≤W.heap.size:=by rw[hW];simp
 have hop:=HI.out.cell 0
 simp only[List.getElem?_toArray,List.getElem?_cons_zero] at hop
 clear hW
 have HL:Hid (∀w':World,(∀b,b<W.heap.size→b≠(w.heap.size+3)→w'.heap[b]? =W.heap[b]?)→w'.cell? ⟨w1.heap.size,0,none⟩=some (.int .i64 1)∧w'.cell? ⟨w1.heap.size,1,none⟩=some (.int .i64 0)):=fun w' hk=>⟨(qAb (hk _ jB qy)).trans (HG.out.cell 0),(qAb (hk _ jB qy)).trans (HG.out.cell 1)⟩
 have HC:Hid (∀w',Below W.heap.size W w'→w'.cell? ⟨w1.heap.size,0,none⟩=some (.int .i64 1)∧w'.cell? ⟨w1.heap.size,1,none⟩=some (.int .i64 0)):=fun w' hb=>HL.out w' fun b h1 _=>hb.block b h1
 have HCs:Hid (∀w' u v,Below W.heap.size W w'→((w'.setCell ⟨(w.heap.size+3),0,none⟩ u).setCell ⟨(w.heap.size+3),1,none⟩ v).cell? ⟨w1.heap.size,0,none⟩=some (.int .i64 1)∧((w'.setCell ⟨(w.heap.size+3),0,none⟩ u).setCell ⟨(w.heap.size+3),1,none⟩ v).cell? ⟨w1.heap.size,1,none⟩=some (.int .i64 0)):=fun w' u v hb=>HL.out _ fun b h1 h2=>((qAi _ ⟨(w.heap.size+3),1,none⟩ v b h2).trans (qAi _ ⟨(w.heap.size+3),0,none⟩ u b h2)).trans (hb.block b h1)
 have SW:=qAZ (HC.out W (qAe _ _))
 go_wp2_with (first
  |(go_at_call 145
    with_reducible refine(PL8.out _).mono ?_
    rintro e w4 ⟨rfl,hb4⟩
    have HB4:Hid (Below W.heap.size W w4):=qB
    have HR4:=qAZ hb4
    have hs4:=hb4.size
    try simp at hs4
    have HBk4:Hid (Blk w4 (w.heap.size+3) 161 #[.slice none 0 0,.slice none 0 0]):=qAc HRW.out HB4.out (by omega)
    have hra4:=HBk4.out.cell 0
    have hrb4:=HBk4.out.cell 1
    have hfa4:=HBk4.out.frozen 0
    have hfb4:=HBk4.out.frozen 1
    have SS4:=qAZ (HC.out _ HB4.out)
    clear hb4)
  |(go_at_call 146
    with_reducible refine(TK.out _ _ _ _).mono ?_
    rintro e w5 ⟨rfl,hb5⟩
    have HB5:Hid (Below W.heap.size W w5):=qH
    have HR5:=qAZ hb5
    have hs5:=hb5.size
    try simp at hs5
    have HBk5:Hid (Blk w5 (w.heap.size+3) 161 #[.slice none 0 0,.slice none 0 0]):=qAc HRW.out HB5.out (by omega)
    have hra5:=HBk5.out.cell 0
    have hrb5:=HBk5.out.cell 1
    have hfa5:=HBk5.out.frozen 0
    have hfb5:=HBk5.out.frozen 1
    have SS5:=qAZ (HC.out _ HB5.out)
    clear hb5))
 refine bodyPost_ret (qBB rfl _ _ rfl (qBH hra5) (qBG hrb5)) rfl ⟨qA0 (HBW.out.trans (HB5.out.mono HBW.out.size)) (by omega),_,_,_,_,_,_,rfl,?_,?_⟩
 · exact qBK (cs:= #[.int .i64 8,.int .i64 0]) (ts:=[(8,0)]) (by(repeat(first|((with_reducible refine qAm ?_);simp;done)|with_reducible refine qAd ?_|with_reducible refine qAy ?_|with_reducible refine qAq ?_ (by omega)|with_reducible refine qAc ?_ HR5.out qK|with_reducible refine qAc ?_ HR4.out qK|with_reducible exact HRW.out))) (by omega) rfl (qAx ⟨qAo (by omega) (by omega),qAo (by omega) (by omega)⟩ (A64.nil)) rfl (by omega)
 · exact qBZ _ _ _
end Go.Proofs.YtconajaecpgjgaaGreat
