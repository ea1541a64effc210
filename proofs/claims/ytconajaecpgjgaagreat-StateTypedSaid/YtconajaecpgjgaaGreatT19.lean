/-
Fcc
-/
import Derived.Test.YtconajaecpgjgaaGreatT16
set_option linter.unusedSimpArgs false
set_option linter.unusedVariables false
set_option maxRecDepth 100000
set_option maxHeartbeats 4000000
namespace Go.Proofs.YtconajaecpgjgaaGreat
open Go.RowKit
theorem qH0 (A0 A1 A2 A3 A4 P0 P1 P2 D:Option Addr) (n0 n1 n2 n3 n4 d0 d1 d2 d3 d4 ua ul uc c0 c1 c2 k g:Nat) (x:Mod) (f:Fn) (ts:List Typ) (ia ib:Int) (w:World) (H:Cx w A0 A1 A2 A3 A4 P0 P1 P2 D n0 n1 n2 n3 n4 d0 d1 d2 d3 d4 ua ul uc c0 c1 c2 k g x f ts) (hia:I64 ia):Calls Tryz.prog 117 #[.agg #[.slice A0 n0 d0,.slice A1 n1 d1,.slice A2 n2 d2,.slice A3 n3 d3,.slice A4 n4 d4],.agg #[.slice P0 ua c0,.int .i64 f.ret.1,.int .i64 f.ret.2,.slice P1 ul c1,.slice P2 uc c2],.agg #[.int .i64 41,.int .i64 ia,.int .i64 ib],.slice D k g] w (Chgs w.heap.size [(5,(topB ts 0).2)] [] w):=by
 have HH:=qAZ H
 have TK:=qAZ qA2
 have PU:=qAZ qA6
 have PL1:=qAZ (fun w=>qAw 1 w)
 clear H
 have FT0:Hid (∀v,Below w.heap.size w v→Calls Tryz.prog 149 #[.slice D k g,.int .i64 0] v (TypIs (topB ts 0) v)):=fun v hb=>qCH D k g 0 ts v HH.out.hk ((HH.out.sk.below hb (qAf _)).wide fun i hi=>qAg hi hb.size) (by have:=HH.out.b5;omega) (by omega)
 have HT0:=qAZ (qDl (n:=0) HH.out.sk.a64)
 generalize topB ts 0=t at*
 have H64:Hid (I64 ((5,t.2):Typ).1∧I64 ((5,t.2):Typ).2):=⟨qAo (by omega) (by omega),HT0.out.2⟩
 have hfld:=field_n t.1 t.2
 go_enter Tryz.func117,Tryz.ntmps117
 go_upto_region 2 with(first
  |(go_at_call 145;(with_reducible refine(PL1.out _).mono ?_);rintro e w1 ⟨rfl,hb1⟩;have HR1:=qAZ hb1;have hs1:=hb1.size;simp at hs1;clear hb1))
 refine qAp fun W hW=> ?_
 have HBW:Hid (Below w.heap.size w W):=by show Below _ _ _;rw[hW];exact(((((qAj w _).alloc (by simp) _).alloc qG _).alloc qG _).trans (HR1.out.mono qG)).alloc (by omega) _
 have HM:Hid (Blk W w.heap.size 28 #[.slice A0 n0 d0,.slice A1 n1 d1,.slice A2 n2 d2,.slice A3 n3 d3,.slice A4 n4 d4]):=by show Blk _ _ _ _;rw[hW];exact qAd (qAc (qAd (qAd (qAd (qAz w _ _)))) HR1.out qG)
 have HF:Hid (Blk W (w.heap.size+1) 61 #[.slice P0 ua c0,.int .i64 f.ret.1,.int .i64 f.ret.2,.slice P1 ul c1,.slice P2 uc c2]):=by show Blk _ _ _ _;rw[hW];exact qAd (qAc (qAd (qAd (qAm (by simp)))) HR1.out qG)
 have HI:Hid (Blk W (w.heap.size+2) 65 #[.int .i64 41,.int .i64 ia,.int .i64 ib]):=by show Blk _ _ _ _;rw[hW];exact qAd (qAc (qAd (qAm (by simp))) HR1.out qG)
 have HRW:Hid (Blk W (w.heap.size+3) 161 #[.slice none 0 0,.slice none 0 0]):=by show Blk _ _ _ _;rw[hW];exact qAd (qAc (qAm (by simp)) HR1.out qG)
 have HG:Hid (Blk W w1.heap.size 58 #[.int .i64 1,.int .i64 0]):=by show Blk _ _ _ _;rw[hW];exact qAm rfl
 have hg1:w.heap.size+4≤w1.heap.size:=by omega
 have hsW:w1.heap.size+1≤W.heap.size:=by rw[hW];simp
 have hop:=HI.out.cell 0
 simp only[List.getElem?_toArray,List.getElem?_cons_zero] at hop
 clear hW
 have HL:Hid (∀w':World,(∀b,b<W.heap.size→b≠(w.heap.size+3)→w'.heap[b]? =W.heap[b]?)→w'.cell? ⟨w1.heap.size,0,none⟩=some (.int .i64 1)∧w'.cell? ⟨w1.heap.size,1,none⟩=some (.int .i64 0)):=fun w' hk=>⟨(qAb (hk _ jB qy)).trans (HG.out.cell 0),(qAb (hk _ jB qy)).trans (HG.out.cell 1)⟩
 have HC:Hid (∀w',Below W.heap.size W w'→w'.cell? ⟨w1.heap.size,0,none⟩=some (.int .i64 1)∧w'.cell? ⟨w1.heap.size,1,none⟩=some (.int .i64 0)):=fun w' hb=>HL.out w' fun b h1 _=>hb.block b h1
 have HCs:Hid (∀w' u v,Below W.heap.size W w'→((w'.setCell ⟨(w.heap.size+3),0,none⟩ u).setCell ⟨(w.heap.size+3),1,none⟩ v).cell? ⟨w1.heap.size,0,none⟩=some (.int .i64 1)∧((w'.setCell ⟨(w.heap.size+3),0,none⟩ u).setCell ⟨(w.heap.size+3),1,none⟩ v).cell? ⟨w1.heap.size,1,none⟩=some (.int .i64 0)):=fun w' u v hb=>HL.out _ fun b h1 h2=>((qAi _ ⟨(w.heap.size+3),1,none⟩ v b h2).trans (qAi _ ⟨(w.heap.size+3),0,none⟩ u b h2)).trans (hb.block b h1)
 have SW:=qAZ (HC.out W (qAe _ _))
 go_wp2_with (first
  |(go_at_call 149
    refine(FT0.out _ HBW.out).mono ?_
    rintro e w4 ⟨rfl,hb4⟩
    have HB4:Hid (Below W.heap.size W w4):=qB
    have HR4:=qAZ hb4
    have hs4:=hb4.size
    try simp at hs4
    have HBk4:Hid (Blk w4 (w.heap.size+3) 161 #[.slice none 0 0,.slice none 0 0]):=qAc HRW.out HB4.out (by omega)
    have hra4:=HBk4.out.cell 0
    have hrb4:=HBk4.out.cell 1
    have hfa4:=HBk4.out.frozen 0
    have hfb4:=HBk4.out.frozen 1
    have SS4:=qAZ (HC.out _ HB4.out)
    clear hb4)
  |(go_at_call 146
    with_reducible refine(TK.out _ _ _ _).mono ?_
    rintro e w5 ⟨rfl,hb5⟩
    have HB5:Hid (Below W.heap.size W w5):=qH
    have HR5:=qAZ hb5
    have hs5:=hb5.size
    try simp at hs5
    have HBk5:Hid (Blk w5 (w.heap.size+3) 161 #[.slice none 0 0,.slice none 0 0]):=qAc HRW.out HB5.out (by omega)
    have hra5:=HBk5.out.cell 0
    have hrb5:=HBk5.out.cell 1
    have hfa5:=HBk5.out.frozen 0
    have hfb5:=HBk5.out.frozen 1
    have SS5:=qAZ (HC.out _ HB5.out)
    clear hb5))
 refine bodyPost_ret (qBB rfl _ _ rfl (qBH hra5) (qBG hrb5)) rfl ⟨qA0 (HBW.out.trans (HB5.out.mono HBW.out.size)) (by omega),_,_,_,_,_,_,rfl,?_,?_⟩
 · exact qBK (cs:= #[.int .i64 5,.int .i64 t.2]) (ts:=[(5,t.2)]) (by(repeat(first|((with_reducible refine qAm ?_);simp;done)|with_reducible refine qAd ?_|with_reducible refine qAy ?_|with_reducible refine qAq ?_ (by omega)|with_reducible refine qAc ?_ HR5.out qK|with_reducible refine qAc ?_ HR4.out qK|with_reducible exact HRW.out))) (by omega) rfl (qAx H64.out (A64.nil)) rfl (by omega)
 · exact zp
theorem qH2 (A0 A1 A2 A3 A4 P0 P1 P2 D:Option Addr) (n0 n1 n2 n3 n4 d0 d1 d2 d3 d4 ua ul uc c0 c1 c2 k g:Nat) (x:Mod) (f:Fn) (ts:List Typ) (ia ib:Int) (w:World) (H:Cx w A0 A1 A2 A3 A4 P0 P1 P2 D n0 n1 n2 n3 n4 d0 d1 d2 d3 d4 ua ul uc c0 c1 c2 k g x f ts) (hia:I64 ia):Calls Tryz.prog 117 #[.agg #[.slice A0 n0 d0,.slice A1 n1 d1,.slice A2 n2 d2,.slice A3 n3 d3,.slice A4 n4 d4],.agg #[.slice P0 ua c0,.int .i64 f.ret.1,.int .i64 f.ret.2,.slice P1 ul c1,.slice P2 uc c2],.agg #[.int .i64 39,.int .i64 ia,.int .i64 ib],.slice D k g] w (Chgs w.heap.size [(7,0)] [(1,0)] w):=by
 have HH:=qAZ H
 have TK:=qAZ qA2
 have PU:=qAZ qA6
 have PL1:=qAZ (fun w=>qAw 1 w)
 clear H
 have PL7:=qAZ (fun w=>qAw 7 w)
 go_enter Tryz.func117,Tryz.ntmps117
 go_upto_region 2 with(first
  |(go_at_call 145;(with_reducible refine(PL1.out _).mono ?_);rintro e w1 ⟨rfl,hb1⟩;have HR1:=qAZ hb1;have hs1:=hb1.size;simp at hs1;clear hb1))
 refine qAp fun W hW=> ?_
 have HBW:Hid (Below w.heap.size w W):=by show Below _ _ _;rw[hW];exact(((((qAj w _).alloc (by simp) _).alloc qG _).alloc qG _).trans (HR1.out.mono qG)).alloc (by omega) _
 have HM:Hid (Blk W w.heap.size 28 #[.slice A0 n0 d0,.slice A1 n1 d1,.slice A2 n2 d2,.slice A3 n3 d3,.slice A4 n4 d4]):=by show Blk _ _ _ _;rw[hW];exact qAd (qAc (qAd (qAd (qAd (qAz w _ _)))) HR1.out qG)
 have HF:Hid (Blk W (w.heap.size+1) 61 #[.slice P0 ua c0,.int .i64 f.ret.1,.int .i64 f.ret.2,.slice P1 ul c1,.slice P2 uc c2]):=by show Blk _ _ _ _;rw[hW];exact qAd (qAc (qAd (qAd (qAm (by simp)))) HR1.out qG)
 have HI:Hid (Blk W (w.heap.size+2) 65 #[.int .i64 39,.int .i64 ia,.int .i64 ib]):=by show Blk _ _ _ _;rw[hW];exact qAd (qAc (qAd (qAm (by simp))) HR1.out qG)
 have HRW:Hid (Blk W (w.heap.size+3) 161 #[.slice none 0 0,.slice none 0 0]):=by show Blk _ _ _ _;rw[hW];exact qAd (qAc (qAm (by simp)) HR1.out qG)
 have HG:Hid (Blk W w1.heap.size 58 #[.int .i64 1,.int .i64 0]):=by show Blk _ _ _ _;rw[hW];exact qAm rfl
 have hg1:w.heap.size+4≤w1.heap.size:=by omega
 have hsW:w1.heap.size+1≤W.heap.size:=by rw[hW];simp
 have hop:=HI.out.cell 0
 simp only[List.getElem?_toArray,List.getElem?_cons_zero] at hop
 clear hW
 have HL:Hid (∀w':World,(∀b,b<W.heap.size→b≠(w.heap.size+3)→w'.heap[b]? =W.heap[b]?)→w'.cell? ⟨w1.heap.size,0,none⟩=some (.int .i64 1)∧w'.cell? ⟨w1.heap.size,1,none⟩=some (.int .i64 0)):=fun w' hk=>⟨(qAb (hk _ jB qy)).trans (HG.out.cell 0),(qAb (hk _ jB qy)).trans (HG.out.cell 1)⟩
 have HC:Hid (∀w',Below W.heap.size W w'→w'.cell? ⟨w1.heap.size,0,none⟩=some (.int .i64 1)∧w'.cell? ⟨w1.heap.size,1,none⟩=some (.int .i64 0)):=fun w' hb=>HL.out w' fun b h1 _=>hb.block b h1
 have HCs:Hid (∀w' u v,Below W.heap.size W w'→((w'.setCell ⟨(w.heap.size+3),0,none⟩ u).setCell ⟨(w.heap.size+3),1,none⟩ v).cell? ⟨w1.heap.size,0,none⟩=some (.int .i64 1)∧((w'.setCell ⟨(w.heap.size+3),0,none⟩ u).setCell ⟨(w.heap.size+3),1,none⟩ v).cell? ⟨w1.heap.size,1,none⟩=some (.int .i64 0)):=fun w' u v hb=>HL.out _ fun b h1 h2=>((qAi _ ⟨(w.heap.size+3),1,none⟩ v b h2).trans (qAi _ ⟨(w.heap.size+3),0,none⟩ u b h2)).trans (hb.block b h1)
 have SW:=qAZ (HC.out W (qAe _ _))
 go_wp2_with fail
 go_region_held3 (fun w'=>w'.cell? ⟨w1.heap.size,0,none⟩=some (.int .i64 1)∧w'.cell? ⟨w1.heap.size,1,none⟩=some (.int .i64 0))
  (first|exact SS6.out|exact SS5.out|exact SS4.out|(have hz:=HB6.out;clear hz;first|exact HC.out _ (HB6.out.alloc HB6.out.size _)|exact HC.out _ ((HB6.out.alloc HB6.out.size _).alloc (by have:=HB6.out.size;simp;omega) _))|(have hz:=HB5.out;clear hz;first|exact HC.out _ (HB5.out.alloc HB5.out.size _)|exact HC.out _ ((HB5.out.alloc HB5.out.size _).alloc qw _))|(have hz:=HB4.out;clear hz;first|exact HC.out _ (HB4.out.alloc HB4.out.size _)|exact HC.out _ ((HB4.out.alloc HB4.out.size _).alloc jC _))|(have hz:=HB6.out;clear hz;exact HCs.out _ _ _ HB6.out)|(have hz:=HB5.out;clear hz;exact HCs.out _ _ _ HB5.out)|(have hz:=HB4.out;clear hz;exact HCs.out _ _ _ HB4.out)|exact SW.out|exact HC.out _ (qAe _ W).drew|exact HC.out _ (qAj W _).drew|exact HC.out _ ((qAj W _).alloc (by simp) _).drew)
  (first
    |(go_at_call 145
      with_reducible refine(PL7.out _).mono ?_
      rintro e w4 ⟨rfl,hb4⟩
      have HB4:Hid (Below W.heap.size W w4):=qB
      have HR4:=qAZ hb4
      have hs4:=hb4.size
      try simp at hs4
      have HBk4:Hid (Blk w4 (w.heap.size+3) 161 #[.slice none 0 0,.slice none 0 0]):=qAc HRW.out HB4.out (by omega)
      have hra4:=HBk4.out.cell 0
      have hrb4:=HBk4.out.cell 1
      have hfa4:=HBk4.out.frozen 0
      have hfb4:=HBk4.out.frozen 1
      have SS4:=qAZ (HC.out _ HB4.out)
      clear hb4)
    |(go_at_call 146
      with_reducible refine(TK.out _ _ _ _).mono ?_
      rintro e w5 ⟨rfl,hb5⟩
      have HB5:Hid (Below W.heap.size W w5):=qH
      have HR5:=qAZ hb5
      have hs5:=hb5.size
      try simp at hs5
      have HBk5:Hid (Blk w5 (w.heap.size+3) 161 #[.slice none 0 0,.slice none 0 0]):=qAc HRW.out HB5.out (by omega)
      have hra5:=HBk5.out.cell 0
      have hrb5:=HBk5.out.cell 1
      have hfa5:=HBk5.out.frozen 0
      have hfb5:=HBk5.out.frozen 1
      have SS5:=qAZ (HC.out _ HB5.out)
      clear hb5)
    |(go_at_call 147
      with_reducible refine(PU.out _ _ _ _ _ _ _).mono ?_
      rintro e w6 ⟨rfl,hb6⟩
      have HB6:Hid (Below W.heap.size W w6):=qn
      have HR6:=qAZ hb6
      have hs6:=hb6.size
      try simp at hs6
      have HBk6:Hid (Blk w6 (w.heap.size+3) 161 #[.slice none 0 0,.slice none 0 0]):=qAc HRW.out HB6.out (by omega)
      have hra6:=HBk6.out.cell 0
      have hrb6:=HBk6.out.cell 1
      have hfa6:=HBk6.out.frozen 0
      have hfb6:=HBk6.out.frozen 1
      have SS6:=qAZ (HC.out _ HB6.out)
      clear hb6))
 all_goals
  go_wp2_with fail
  refine bodyPost_ret (qBB rfl _ _ rfl (qBH hra6) (qBG hrb6)) rfl ⟨qA0 (HBW.out.trans (HB6.out.mono HBW.out.size)) (by omega),_,_,_,_,_,_,rfl,?_,?_⟩
  · exact qBK (cs:= #[.int .i64 7,.int .i64 0]) (ts:=[(7,0)]) (by(repeat(first|((with_reducible refine qAm ?_);simp;done)|with_reducible refine qAd ?_|with_reducible refine qAy ?_|with_reducible refine qAq ?_ (by omega)|with_reducible refine qAc ?_ HR6.out qK|with_reducible refine qAc ?_ HR5.out qK|with_reducible refine qAc ?_ HR4.out qK|with_reducible exact HRW.out))) (by omega) rfl (qAx ⟨qAo (by omega) (by omega),qAo (by omega) (by omega)⟩ (A64.nil)) rfl (by omega)
  · exact qBK (cs:= #[.int .i64 1,.int .i64 0]) (ts:=[(1,0)]) (by(repeat(first|((with_reducible refine qAm ?_);simp;done)|with_reducible refine qAd ?_|with_reducible refine qAy ?_|with_reducible refine qAq ?_ (by omega)|with_reducible refine qAc ?_ HR6.out qK|with_reducible refine qAc ?_ HR5.out qK|with_reducible refine qAc ?_ HR4.out qK|with_reducible exact HRW.out))) (by omega) rfl (qAx ⟨qAo (by omega) (by omega),qAo (by omega) (by omega)⟩ (A64.nil)) rfl (by omega)
theorem qH1 (A0 A1 A2 A3 A4 P0 P1 P2 D:Option Addr) (n0 n1 n2 n3 n4 d0 d1 d2 d3 d4 ua ul uc c0 c1 c2 k g:Nat) (x:Mod) (f:Fn) (ts:List Typ) (ia ib:Int) (w:World) (H:Cx w A0 A1 A2 A3 A4 P0 P1 P2 D n0 n1 n2 n3 n4 d0 d1 d2 d3 d4 ua ul uc c0 c1 c2 k g x f ts) (hia:I64 ia):Calls Tryz.prog 117 #[.agg #[.slice A0 n0 d0,.slice A1 n1 d1,.slice A2 n2 d2,.slice A3 n3 d3,.slice A4 n4 d4],.agg #[.slice P0 ua c0,.int .i64 f.ret.1,.int .i64 f.ret.2,.slice P1 ul c1,.slice P2 uc c2],.agg #[.int .i64 40,.int .i64 ia,.int .i64 ib],.slice D k g] w (Chgs w.heap.size [(7,0),(7,0)] [(1,0)] w):=by
 have HH:=qAZ H
 have TK:=qAZ qA2
 have PU:=qAZ qA6
 have PL1:=qAZ (fun w=>qAw 1 w)
 clear H
 have PL7:=qAZ (fun w=>qAw 7 w)
 go_enter Tryz.func117,Tryz.ntmps117
 go_upto_region 2 with(first
  |(go_at_call 145;(with_reducible refine(PL1.out _).mono ?_);rintro e w1 ⟨rfl,hb1⟩;have HR1:=qAZ hb1;have hs1:=hb1.size;simp at hs1;clear hb1))
 refine qAp fun W hW=> ?_
 have HBW:Hid (Below w.heap.size w W):=by show Below _ _ _;rw[hW];exact(((((qAj w _).alloc (by simp) _).alloc qG _).alloc qG _).trans (HR1.out.mono qG)).alloc (by omega) _
 have HM:Hid (Blk W w.heap.size 28 #[.slice A0 n0 d0,.slice A1 n1 d1,.slice A2 n2 d2,.slice A3 n3 d3,.slice A4 n4 d4]):=by show Blk _ _ _ _;rw[hW];exact qAd (qAc (qAd (qAd (qAd (qAz w _ _)))) HR1.out qG)
 have HF:Hid (Blk W (w.heap.size+1) 61 #[.slice P0 ua c0,.int .i64 f.ret.1,.int .i64 f.ret.2,.slice P1 ul c1,.slice P2 uc c2]):=by show Blk _ _ _ _;rw[hW];exact qAd (qAc (qAd (qAd (qAm (by simp)))) HR1.out qG)
 have HI:Hid (Blk W (w.heap.size+2) 65 #[.int .i64 40,.int .i64 ia,.int .i64 ib]):=by show Blk _ _ _ _;rw[hW];exact qAd (qAc (qAd (qAm (by simp))) HR1.out qG)
 have HRW:Hid (Blk W (w.heap.size+3) 161 #[.slice none 0 0,.slice none 0 0]):=by show Blk _ _ _ _;rw[hW];exact qAd (qAc (qAm (by simp)) HR1.out qG)
 have HG:Hid (Blk W w1.heap.size 58 #[.int .i64 1,.int .i64 0]):=by show Blk _ _ _ _;rw[hW];exact qAm rfl
 have hg1:w.heap.size+4≤w1.heap.size:=by omega
 have hsW:w1.heap.size+1≤W.heap.size:=by rw[hW];simp
 have hop:=HI.out.cell 0
 simp only[List.getElem?_toArray,List.getElem?_cons_zero] at hop
 clear hW
 have HL:Hid (∀w':World,(∀b,b<W.heap.size→b≠(w.heap.size+3)→w'.heap[b]? =W.heap[b]?)→w'.cell? ⟨w1.heap.size,0,none⟩=some (.int .i64 1)∧w'.cell? ⟨w1.heap.size,1,none⟩=some (.int .i64 0)):=fun w' hk=>⟨(qAb (hk _ jB qy)).trans (HG.out.cell 0),(qAb (hk _ jB qy)).trans (HG.out.cell 1)⟩
 have HC:Hid (∀w',Below W.heap.size W w'→w'.cell? ⟨w1.heap.size,0,none⟩=some (.int .i64 1)∧w'.cell? ⟨w1.heap.size,1,none⟩=some (.int .i64 0)):=fun w' hb=>HL.out w' fun b h1 _=>hb.block b h1
 have HCs:Hid (∀w' u v,Below W.heap.size W w'→((w'.setCell ⟨(w.heap.size+3),0,none⟩ u).setCell ⟨(w.heap.size+3),1,none⟩ v).cell? ⟨w1.heap.size,0,none⟩=some (.int .i64 1)∧((w'.setCell ⟨(w.heap.size+3),0,none⟩ u).setCell ⟨(w.heap.size+3),1,none⟩ v).cell? ⟨w1.heap.size,1,none⟩=some (.int .i64 0)):=fun w' u v hb=>HL.out _ fun b h1 h2=>((qAi _ ⟨(w.heap.size+3),1,none⟩ v b h2).trans (qAi _ ⟨(w.heap.size+3),0,none⟩ u b h2)).trans (hb.block b h1)
 have SW:=qAZ (HC.out W (qAe _ _))
 go_wp2_with fail
 go_region_held3 (fun w'=>w'.cell? ⟨w1.heap.size,0,none⟩=some (.int .i64 1)∧w'.cell? ⟨w1.heap.size,1,none⟩=some (.int .i64 0))
  (first|exact SS7.out|exact SS6.out|exact SS5.out|exact SS4.out|(have hz:=HB7.out;clear hz;first|exact HC.out _ (HB7.out.alloc HB7.out.size _)|exact HC.out _ ((HB7.out.alloc HB7.out.size _).alloc (by have:=HB7.out.size;simp;omega) _))|(have hz:=HB6.out;clear hz;first|exact HC.out _ (HB6.out.alloc HB6.out.size _)|exact HC.out _ ((HB6.out.alloc HB6.out.size _).alloc (by have:=HB6.out.size;simp;omega) _))|(have hz:=HB5.out;clear hz;first|exact HC.out _ (HB5.out.alloc HB5.out.size _)|exact HC.out _ ((HB5.out.alloc HB5.out.size _).alloc qw _))|(have hz:=HB4.out;clear hz;first|exact HC.out _ (HB4.out.alloc HB4.out.size _)|exact HC.out _ ((HB4.out.alloc HB4.out.size _).alloc jC _))|(have hz:=HB7.out;clear hz;exact HCs.out _ _ _ HB7.out)|(have hz:=HB6.out;clear hz;exact HCs.out _ _ _ HB6.out)|(have hz:=HB5.out;clear hz;exact HCs.out _ _ _ HB5.out)|(have hz:=HB4.out;clear hz;exact HCs.out _ _ _ HB4.out)|exact SW.out|exact HC.out _ (qAe _ W).drew|exact HC.out _ (qAj W _).drew|exact HC.out _ ((qAj W _).alloc (by simp) _).drew)
  (first
    |(go_at_call 145
      have hzz:=HB4.out;clear hzz
      with_reducible refine(PL7.out _).mono ?_
      rintro e w5 ⟨rfl,hb5⟩
      have HB5:Hid (Below W.heap.size W w5):=qH
      have HR5:=qAZ hb5
      have hs5:=hb5.size
      try simp at hs5
      have HBk5:Hid (Blk w5 (w.heap.size+3) 161 #[.slice none 0 0,.slice none 0 0]):=qAc HRW.out HB5.out (by omega)
      have hra5:=HBk5.out.cell 0
      have hrb5:=HBk5.out.cell 1
      have hfa5:=HBk5.out.frozen 0
      have hfb5:=HBk5.out.frozen 1
      have SS5:=qAZ (HC.out _ HB5.out)
      clear hb5)
    |(go_at_call 145
      with_reducible refine(PL7.out _).mono ?_
      rintro e w4 ⟨rfl,hb4⟩
      have HB4:Hid (Below W.heap.size W w4):=qB
      have HR4:=qAZ hb4
      have hs4:=hb4.size
      try simp at hs4
      have HBk4:Hid (Blk w4 (w.heap.size+3) 161 #[.slice none 0 0,.slice none 0 0]):=qAc HRW.out HB4.out (by omega)
      have hra4:=HBk4.out.cell 0
      have hrb4:=HBk4.out.cell 1
      have hfa4:=HBk4.out.frozen 0
      have hfb4:=HBk4.out.frozen 1
      have SS4:=qAZ (HC.out _ HB4.out)
      clear hb4)
    |(go_at_call 146
      with_reducible refine(TK.out _ _ _ _).mono ?_
      rintro e w6 ⟨rfl,hb6⟩
      have HB6:Hid (Below W.heap.size W w6):=qn
      have HR6:=qAZ hb6
      have hs6:=hb6.size
      try simp at hs6
      have HBk6:Hid (Blk w6 (w.heap.size+3) 161 #[.slice none 0 0,.slice none 0 0]):=qAc HRW.out HB6.out (by omega)
      have hra6:=HBk6.out.cell 0
      have hrb6:=HBk6.out.cell 1
      have hfa6:=HBk6.out.frozen 0
      have hfb6:=HBk6.out.frozen 1
      have SS6:=qAZ (HC.out _ HB6.out)
      clear hb6)
    |(go_at_call 147
      with_reducible refine(PU.out _ _ _ _ _ _ _).mono ?_
      rintro e w7 ⟨rfl,hb7⟩
      have HB7:Hid (Below W.heap.size W w7):=(by show Below _ _ _;first|exact trn (HB6.out) hb7|exact trn (HB6.out.alloc HB6.out.size _) hb7|exact trn ((HB6.out.alloc HB6.out.size _).alloc (by have:=HB6.out.size;simp;omega) _) hb7)
      have HR7:=qAZ hb7
      have hs7:=hb7.size
      try simp at hs7
      have HBk7:Hid (Blk w7 (w.heap.size+3) 161 #[.slice none 0 0,.slice none 0 0]):=qAc HRW.out HB7.out (by omega)
      have hra7:=HBk7.out.cell 0
      have hrb7:=HBk7.out.cell 1
      have hfa7:=HBk7.out.frozen 0
      have hfb7:=HBk7.out.frozen 1
      have SS7:=qAZ (HC.out _ HB7.out)
      clear hb7))
 all_goals
  go_wp2_with fail
  refine bodyPost_ret (qBB rfl _ _ rfl (qBH hra7) (qBG hrb7)) rfl ⟨qA0 (HBW.out.trans (HB7.out.mono HBW.out.size)) (by omega),_,_,_,_,_,_,rfl,?_,?_⟩
  · exact qBK (cs:= #[.int .i64 7,.int .i64 0,.int .i64 7,.int .i64 0]) (ts:=[(7,0),(7,0)]) (by(repeat(first|((with_reducible refine qAm ?_);simp;done)|with_reducible refine qAd ?_|with_reducible refine qAy ?_|with_reducible refine qAq ?_ (by omega)|with_reducible refine qAc ?_ HR7.out qK|with_reducible refine qAc ?_ HR6.out qK|with_reducible refine qAc ?_ HR5.out qK|with_reducible refine qAc ?_ HR4.out qK|with_reducible exact HRW.out))) (by omega) rfl (qAx ⟨qAo (by omega) (by omega),qAo (by omega) (by omega)⟩ (qAx ⟨qAo (by omega) (by omega),qAo (by omega) (by omega)⟩ (A64.nil))) rfl (by omega)
  · exact qBK (cs:= #[.int .i64 1,.int .i64 0]) (ts:=[(1,0)]) (by(repeat(first|((with_reducible refine qAm ?_);simp;done)|with_reducible refine qAd ?_|with_reducible refine qAy ?_|with_reducible refine qAq ?_ (by omega)|with_reducible refine qAc ?_ HR7.out qK|with_reducible refine qAc ?_ HR6.out qK|with_reducible refine qAc ?_ HR5.out qK|with_reducible refine qAc ?_ HR4.out qK|with_reducible exact HRW.out))) (by omega) rfl (qAx ⟨qAo (by omega) (by omega),qAo (by omega) (by omega)⟩ (A64.nil)) rfl (by omega)
theorem qGs (A0 A1 A2 A3 A4 P0 P1 P2 D:Option Addr) (n0 n1 n2 n3 n4 d0 d1 d2 d3 d4 ua ul uc c0 c1 c2 k g:Nat) (x:Mod) (f:Fn) (ts:List Typ) (o ia ib:Int) (w:World) (H:Cx w A0 A1 A2 A3 A4 P0 P1 P2 D n0 n1 n2 n3 n4 d0 d1 d2 d3 d4 ua ul uc c0 c1 c2 k g x f ts) (hia:I64 ia) (ho:8≤o) (ho2:o≤21):Calls Tryz.prog 117 #[.agg #[.slice A0 n0 d0,.slice A1 n1 d1,.slice A2 n2 d2,.slice A3 n3 d3,.slice A4 n4 d4],.agg #[.slice P0 ua c0,.int .i64 f.ret.1,.int .i64 f.ret.2,.slice P1 ul c1,.slice P2 uc c2],.agg #[.int .i64 o,.int .i64 ia,.int .i64 ib],.slice D k g] w (Chgs w.heap.size [(1,0),(1,0)] [(1,0)] w):=by
 have HH:=qAZ H
 have TK:=qAZ qA2
 have PU:=qAZ qA6
 have PL1:=qAZ (fun w=>qAw 1 w)
 clear H
 have e0:(o==0)=false:=by simp;omega
 have e1:(o==1)=false:=by simp;omega
 have e2:(o==2)=false:=by simp;omega
 have e3:(o==3)=false:=by simp;omega
 have e4:(o==4)=false:=by simp;omega
 have e5:(o==5)=false:=by simp;omega
 have e6:(o==6)=false:=by simp;omega
 have e7:(o==7)=false:=by simp;omega
 have e22:(o==22)=false:=by simp;omega
 have e23:(o==23)=false:=by simp;omega
 have e24:(o==24)=false:=by simp;omega
 have e25:(o==25)=false:=by simp;omega
 have e26:(o==26)=false:=by simp;omega
 have e27:(o==27)=false:=by simp;omega
 have e28:(o==28)=false:=by simp;omega
 have e29:(o==29)=false:=by simp;omega
 have e30:(o==30)=false:=by simp;omega
 have e31:(o==31)=false:=by simp;omega
 have e32:(o==32)=false:=by simp;omega
 have e33:(o==33)=false:=by simp;omega
 have e34:(o==34)=false:=by simp;omega
 have e35:(o==35)=false:=by simp;omega
 have e36:(o==36)=false:=by simp;omega
 have e37:(o==37)=false:=by simp;omega
 have e38:(o==38)=false:=by simp;omega
 have e39:(o==39)=false:=by simp;omega
 have e40:(o==40)=false:=by simp;omega
 have e41:(o==41)=false:=by simp;omega
 clear ho ho2
 go_enter Tryz.func117,Tryz.ntmps117
 go_upto_region 2 with(first
  |(go_at_call 145;(with_reducible refine(PL1.out _).mono ?_);rintro e w1 ⟨rfl,hb1⟩;have HR1:=qAZ hb1;have hs1:=hb1.size;simp at hs1;clear hb1))
 refine qAp fun W hW=> ?_
 have HBW:Hid (Below w.heap.size w W):=by show Below _ _ _;rw[hW];exact(((((qAj w _).alloc (by simp) _).alloc qG _).alloc qG _).trans (HR1.out.mono qG)).alloc (by omega) _
 have HM:Hid (Blk W w.heap.size 28 #[.slice A0 n0 d0,.slice A1 n1 d1,.slice A2 n2 d2,.slice A3 n3 d3,.slice A4 n4 d4]):=by show Blk _ _ _ _;rw[hW];exact qAd (qAc (qAd (qAd (qAd (qAz w _ _)))) HR1.out qG)
 have HF:Hid (Blk W (w.heap.size+1) 61 #[.slice P0 ua c0,.int .i64 f.ret.1,.int .i64 f.ret.2,.slice P1 ul c1,.slice P2 uc c2]):=by show Blk _ _ _ _;rw[hW];exact qAd (qAc (qAd (qAd (qAm (by simp)))) HR1.out qG)
 have HI:Hid (Blk W (w.heap.size+2) 65 #[.int .i64 o,.int .i64 ia,.int .i64 ib]):=by show Blk _ _ _ _;rw[hW];exact qAd (qAc (qAd (qAm (by simp))) HR1.out qG)
 have HRW:Hid (Blk W (w.heap.size+3) 161 #[.slice none 0 0,.slice none 0 0]):=by show Blk _ _ _ _;rw[hW];exact qAd (qAc (qAm (by simp)) HR1.out qG)
 have HG:Hid (Blk W w1.heap.size 58 #[.int .i64 1,.int .i64 0]):=by show Blk _ _ _ _;rw[hW];exact qAm rfl
 have hg1:w.heap.size+4≤w1.heap.size:=by omega
 have hsW:w1.heap.size+1≤W.heap.size:=by rw[hW];simp
 have hop:=HI.out.cell 0
 simp only[List.getElem?_toArray,List.getElem?_cons_zero] at hop
 clear hW
 have HL:Hid (∀w':World,(∀b,b<W.heap.size→b≠(w.heap.size+3)→w'.heap[b]? =W.heap[b]?)→w'.cell? ⟨w1.heap.size,0,none⟩=some (.int .i64 1)∧w'.cell? ⟨w1.heap.size,1,none⟩=some (.int .i64 0)):=fun w' hk=>⟨(qAb (hk _ jB qy)).trans (HG.out.cell 0),(qAb (hk _ jB qy)).trans (HG.out.cell 1)⟩
 have HC:Hid (∀w',Below W.heap.size W w'→w'.cell? ⟨w1.heap.size,0,none⟩=some (.int .i64 1)∧w'.cell? ⟨w1.heap.size,1,none⟩=some (.int .i64 0)):=fun w' hb=>HL.out w' fun b h1 _=>hb.block b h1
 have HCs:Hid (∀w' u v,Below W.heap.size W w'→((w'.setCell ⟨(w.heap.size+3),0,none⟩ u).setCell ⟨(w.heap.size+3),1,none⟩ v).cell? ⟨w1.heap.size,0,none⟩=some (.int .i64 1)∧((w'.setCell ⟨(w.heap.size+3),0,none⟩ u).setCell ⟨(w.heap.size+3),1,none⟩ v).cell? ⟨w1.heap.size,1,none⟩=some (.int .i64 0)):=fun w' u v hb=>HL.out _ fun b h1 h2=>((qAi _ ⟨(w.heap.size+3),1,none⟩ v b h2).trans (qAi _ ⟨(w.heap.size+3),0,none⟩ u b h2)).trans (hb.block b h1)
 have SW:=qAZ (HC.out W (qAe _ _))
 go_wp2_with fail
 go_region_held3 (fun w'=>w'.cell? ⟨w1.heap.size,0,none⟩=some (.int .i64 1)∧w'.cell? ⟨w1.heap.size,1,none⟩=some (.int .i64 0))
  (first|exact SS5.out|exact SS4.out|(have hz:=HB5.out;clear hz;first|exact HC.out _ (HB5.out.alloc HB5.out.size _)|exact HC.out _ ((HB5.out.alloc HB5.out.size _).alloc qw _))|(have hz:=HB4.out;clear hz;first|exact HC.out _ (HB4.out.alloc HB4.out.size _)|exact HC.out _ ((HB4.out.alloc HB4.out.size _).alloc jC _))|(have hz:=HB5.out;clear hz;exact HCs.out _ _ _ HB5.out)|(have hz:=HB4.out;clear hz;exact HCs.out _ _ _ HB4.out)|exact SW.out|exact HC.out _ (qAe _ W).drew|exact HC.out _ (qAj W _).drew|exact HC.out _ ((qAj W _).alloc (by simp) _).drew)
  (first
    |(go_at_call 146
      with_reducible refine(TK.out _ _ _ _).mono ?_
      rintro e w4 ⟨rfl,hb4⟩
      have HB4:Hid (Below W.heap.size W w4):=qB
      have HR4:=qAZ hb4
      have hs4:=hb4.size
      try simp at hs4
      have HBk4:Hid (Blk w4 (w.heap.size+3) 161 #[.slice none 0 0,.slice none 0 0]):=qAc HRW.out HB4.out (by omega)
      have hra4:=HBk4.out.cell 0
      have hrb4:=HBk4.out.cell 1
      have hfa4:=HBk4.out.frozen 0
      have hfb4:=HBk4.out.frozen 1
      have SS4:=qAZ (HC.out _ HB4.out)
      clear hb4)
    |(go_at_call 147
      with_reducible refine(PU.out _ _ _ _ _ _ _).mono ?_
      rintro e w5 ⟨rfl,hb5⟩
      have HB5:Hid (Below W.heap.size W w5):=qH
      have HR5:=qAZ hb5
      have hs5:=hb5.size
      try simp at hs5
      have HBk5:Hid (Blk w5 (w.heap.size+3) 161 #[.slice none 0 0,.slice none 0 0]):=qAc HRW.out HB5.out (by omega)
      have hra5:=HBk5.out.cell 0
      have hrb5:=HBk5.out.cell 1
      have hfa5:=HBk5.out.frozen 0
      have hfb5:=HBk5.out.frozen 1
      have SS5:=qAZ (HC.out _ HB5.out)
      clear hb5))
 all_goals
  go_wp2_with fail
  refine bodyPost_ret (qBB rfl _ _ rfl (qBH hra5) (qBG hrb5)) rfl ⟨qA0 (HBW.out.trans (HB5.out.mono HBW.out.size)) (by omega),_,_,_,_,_,_,rfl,?_,?_⟩
  · exact qT
  · exact qBK (cs:= #[.int .i64 1,.int .i64 0]) (ts:=[(1,0)]) (by(repeat(first|((with_reducible refine qAm ?_);simp;done)|with_reducible refine qAd ?_|with_reducible refine qAy ?_|with_reducible refine qAq ?_ (by omega)|with_reducible refine qAc ?_ HR5.out qK|with_reducible refine qAc ?_ HR4.out qK|with_reducible exact HRW.out))) (by omega) rfl (qAx ⟨qAo (by omega) (by omega),qAo (by omega) (by omega)⟩ (A64.nil)) rfl (by omega)
end Go.Proofs.YtconajaecpgjgaaGreat
