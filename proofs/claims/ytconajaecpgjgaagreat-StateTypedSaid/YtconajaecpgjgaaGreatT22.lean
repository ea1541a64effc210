/-
Fce Fcf
-/
import Derived.Test.YtconajaecpgjgaaGreatT16
set_option linter.unusedSimpArgs false
set_option linter.unusedVariables false
set_option maxRecDepth 100000
set_option maxHeartbeats 4000000
namespace Go.Proofs.YtconajaecpgjgaaGreat
open Go.RowKit
theorem qJK (A0 A1 A2 A3 A4 P0 P1 P2 D:Option Addr) (n0 n1 n2 n3 n4 d0 d1 d2 d3 d4 ua ul uc c0 c1 c2 k g:Nat) (x:Mod) (f:Fn) (ts:List Typ) (ia ib:Int) (w:World) (H:Cx w A0 A1 A2 A3 A4 P0 P1 P2 D n0 n1 n2 n3 n4 d0 d1 d2 d3 d4 ua ul uc c0 c1 c2 k g x f ts) (hia:I64 ia):Calls Tryz.prog 117 #[.agg #[.slice A0 n0 d0,.slice A1 n1 d1,.slice A2 n2 d2,.slice A3 n3 d3,.slice A4 n4 d4],.agg #[.slice P0 ua c0,.int .i64 f.ret.1,.int .i64 f.ret.2,.slice P1 ul c1,.slice P2 uc c2],.agg #[.int .i64 6,.int .i64 ia,.int .i64 ib],.slice D k g] w (Chgs w.heap.size [topB ts 0] [topB ts 0,topB ts 0] w):=by
 have HH:=qAZ H
 have TK:=qAZ qA2
 have PU:=qAZ qA6
 have PL1:=qAZ (fun w=>qAw 1 w)
 clear H
 have FT0:Hid (∀v,Below w.heap.size w v→Calls Tryz.prog 149 #[.slice D k g,.int .i64 0] v (TypIs (topB ts 0) v)):=fun v hb=>qCH D k g 0 ts v HH.out.hk ((HH.out.sk.below hb (qAf _)).wide fun i hi=>qAg hi hb.size) (by have:=HH.out.b5;omega) (by omega)
 have HT0:=qAZ (qDl (n:=0) HH.out.sk.a64)
 generalize topB ts 0=t at*
 go_enter Tryz.func117,Tryz.ntmps117
 go_upto_region 2 with(first
  |(go_at_call 145;(with_reducible refine(PL1.out _).mono ?_);rintro e w1 ⟨rfl,hb1⟩;have HR1:=qAZ hb1;have hs1:=hb1.size;simp at hs1;clear hb1))
 refine qAp fun U hW=> ?_
 have HBU:Hid (Below w.heap.size w U):=by show Below _ _ _;rw[hW];exact(((((qAj w _).alloc (by simp) _).alloc qG _).alloc qG _).trans (HR1.out.mono qG)).alloc (by omega) _
 have HM:Hid (Blk U w.heap.size 28 #[.slice A0 n0 d0,.slice A1 n1 d1,.slice A2 n2 d2,.slice A3 n3 d3,.slice A4 n4 d4]):=by show Blk _ _ _ _;rw[hW];exact qAd (qAc (qAd (qAd (qAd (qAz w _ _)))) HR1.out qG)
 have HF:Hid (Blk U (w.heap.size+1) 61 #[.slice P0 ua c0,.int .i64 f.ret.1,.int .i64 f.ret.2,.slice P1 ul c1,.slice P2 uc c2]):=by show Blk _ _ _ _;rw[hW];exact qAd (qAc (qAd (qAd (qAm (by simp)))) HR1.out qG)
 have HI:Hid (Blk U (w.heap.size+2) 65 #[.int .i64 6,.int .i64 ia,.int .i64 ib]):=by show Blk _ _ _ _;rw[hW];exact qAd (qAc (qAd (qAm (by simp))) HR1.out qG)
 have HRU:Hid (Blk U (w.heap.size+3) 161 #[.slice none 0 0,.slice none 0 0]):=by show Blk _ _ _ _;rw[hW];exact qAd (qAc (qAm (by simp)) HR1.out qG)
 have HG:Hid (Blk U w1.heap.size 58 #[.int .i64 1,.int .i64 0]):=by show Blk _ _ _ _;rw[hW];exact qAm rfl
 have hg1:w.heap.size+4≤w1.heap.size:=by omega
 have hsU:w1.heap.size+1≤U.heap.size:=by rw[hW];simp
 have hop:=HI.out.cell 0
 simp only[List.getElem?_toArray,List.getElem?_cons_zero] at hop
 clear hW
 go_upto_region 17 with(first
  |(go_at_call 149;(with_reducible refine(FT0.out _ HBU.out).mono ?_);rintro e w4 ⟨rfl,hb4⟩;have HR4:=qAZ hb4;have hs4:=hb4.size;clear hb4))
 have HBl:Hid (Below U.heap.size U w4):=HR4.out
 refine qAp fun W hW=> ?_
 have HUW:Hid (Below U.heap.size U W):=by show Below _ _ _;rw[hW];exact HBl.out.alloc HBl.out.size _
 have hsl:=HBl.out.size
 have HT:Hid (Blk W w4.heap.size 58 #[.int .i64 t.1,.int .i64 t.2]):=by show Blk _ _ _ _;rw[hW];exact qAm rfl
 have hsW:w4.heap.size+1≤W.heap.size:=by rw[hW];simp
 have HBW:Hid (Below w.heap.size w W):=HBU.out.trans (HUW.out.mono HBU.out.size)
 have HRW:Hid (Blk W (w.heap.size+3) 161 #[.slice none 0 0,.slice none 0 0]):=qAc HRU.out HUW.out (by omega)
 clear hW
 have HL:Hid (∀w':World,(∀b,b<W.heap.size→b≠(w.heap.size+3)→w'.heap[b]? =W.heap[b]?)→w'.cell? ⟨w4.heap.size,0,none⟩=some (.int .i64 t.1)∧w'.cell? ⟨w4.heap.size,1,none⟩=some (.int .i64 t.2)):=fun w' hk=>⟨(qAb (hk _ (by show w4.heap.size<_;omega) (by show w4.heap.size≠_;omega))).trans (HT.out.cell 0),(qAb (hk _ (by show w4.heap.size<_;omega) (by show w4.heap.size≠_;omega))).trans (HT.out.cell 1)⟩
 have HC:Hid (∀w',Below W.heap.size W w'→w'.cell? ⟨w4.heap.size,0,none⟩=some (.int .i64 t.1)∧w'.cell? ⟨w4.heap.size,1,none⟩=some (.int .i64 t.2)):=fun w' hb=>HL.out w' fun b h1 _=>hb.block b h1
 have HCs:Hid (∀w' u v,Below W.heap.size W w'→((w'.setCell ⟨(w.heap.size+3),0,none⟩ u).setCell ⟨(w.heap.size+3),1,none⟩ v).cell? ⟨w4.heap.size,0,none⟩=some (.int .i64 t.1)∧((w'.setCell ⟨(w.heap.size+3),0,none⟩ u).setCell ⟨(w.heap.size+3),1,none⟩ v).cell? ⟨w4.heap.size,1,none⟩=some (.int .i64 t.2)):=fun w' u v hb=>HL.out _ fun b h1 h2=>((qAi _ ⟨(w.heap.size+3),1,none⟩ v b h2).trans (qAi _ ⟨(w.heap.size+3),0,none⟩ u b h2)).trans (hb.block b h1)
 have SW:=qAZ (HC.out W (qAe _ _))
 go_wp2_with fail
 go_region_held3 (fun w'=>w'.cell? ⟨w4.heap.size,0,none⟩=some (.int .i64 t.1)∧w'.cell? ⟨w4.heap.size,1,none⟩=some (.int .i64 t.2))
  (first|exact SS8.out|exact SS7.out|(have hz:=HB8.out;clear hz;first|exact HC.out _ (HB8.out.alloc HB8.out.size _)|exact HC.out _ ((HB8.out.alloc HB8.out.size _).alloc (by have:=HB8.out.size;simp;omega) _))|(have hz:=HB7.out;clear hz;first|exact HC.out _ (HB7.out.alloc HB7.out.size _)|exact HC.out _ ((HB7.out.alloc HB7.out.size _).alloc (by have:=HB7.out.size;simp;omega) _))|(have hz:=HB8.out;clear hz;exact HCs.out _ _ _ HB8.out)|(have hz:=HB7.out;clear hz;exact HCs.out _ _ _ HB7.out)|exact SW.out|exact HC.out _ (qAe _ W).drew|exact HC.out _ (qAj W _).drew|exact HC.out _ ((qAj W _).alloc (by simp) _).drew)
  (first
    |(go_at_call 146
      with_reducible refine(TK.out _ _ _ _).mono ?_
      rintro e w7 ⟨rfl,hb7⟩
      have HB7:Hid (Below W.heap.size W w7):=zq
      have HR7:=qAZ hb7
      have hs7:=hb7.size
      try simp at hs7
      have HBk7:Hid (Blk w7 (w.heap.size+3) 161 #[.slice none 0 0,.slice none 0 0]):=qAc HRW.out HB7.out (by omega)
      have hra7:=HBk7.out.cell 0
      have hrb7:=HBk7.out.cell 1
      have hfa7:=HBk7.out.frozen 0
      have hfb7:=HBk7.out.frozen 1
      have SS7:=qAZ (HC.out _ HB7.out)
      clear hb7)
    |(go_at_call 147
      with_reducible refine(PU.out _ _ _ _ _ _ _).mono ?_
      rintro e w8 ⟨rfl,hb8⟩
      have HB8:Hid (Below W.heap.size W w8):=jT
      have HR8:=qAZ hb8
      have hs8:=hb8.size
      try simp at hs8
      have HBk8:Hid (Blk w8 (w.heap.size+3) 161 #[.slice none 0 0,.slice none 0 0]):=qAc HRW.out HB8.out (by omega)
      have hra8:=HBk8.out.cell 0
      have hrb8:=HBk8.out.cell 1
      have hfa8:=HBk8.out.frozen 0
      have hfb8:=HBk8.out.frozen 1
      have SS8:=qAZ (HC.out _ HB8.out)
      clear hb8))
 all_goals
  go_wp2_with fail
  refine bodyPost_ret (qBB rfl _ _ rfl (qBH hra8) (qBG hrb8)) rfl ⟨qA0 (HBW.out.trans (HB8.out.mono HBW.out.size)) (by omega),_,_,_,_,_,_,rfl,?_,?_⟩
  · exact qBK (cs:= #[.int .i64 t.1,.int .i64 t.2]) (ts:=[t]) (by(repeat(first|((with_reducible refine qAm ?_);simp;done)|with_reducible refine qAd ?_|with_reducible refine qAy ?_|with_reducible refine qAq ?_ (by omega)|with_reducible refine qAc ?_ HR8.out qK|with_reducible refine qAc ?_ HR7.out qK|with_reducible exact HRW.out))) (by omega) rfl (qAx HT0.out (A64.nil)) rfl (by omega)
  · exact qBK (cs:= #[.int .i64 t.1,.int .i64 t.2,.int .i64 t.1,.int .i64 t.2]) (ts:=[t,t]) (by(repeat(first|((with_reducible refine qAm ?_);simp;done)|with_reducible refine qAd ?_|with_reducible refine qAy ?_|with_reducible refine qAq ?_ (by omega)|with_reducible refine qAc ?_ HR8.out qK|with_reducible refine qAc ?_ HR7.out qK|with_reducible exact HRW.out))) (by omega) rfl (qAx HT0.out (qAx HT0.out (A64.nil))) rfl (by omega)
theorem qJJ (A0 A1 A2 A3 A4 P0 P1 P2 D:Option Addr) (n0 n1 n2 n3 n4 d0 d1 d2 d3 d4 ua ul uc c0 c1 c2 k g:Nat) (x:Mod) (f:Fn) (ts:List Typ) (ia ib:Int) (w:World) (H:Cx w A0 A1 A2 A3 A4 P0 P1 P2 D n0 n1 n2 n3 n4 d0 d1 d2 d3 d4 ua ul uc c0 c1 c2 k g x f ts) (hia:I64 ia):Calls Tryz.prog 117 #[.agg #[.slice A0 n0 d0,.slice A1 n1 d1,.slice A2 n2 d2,.slice A3 n3 d3,.slice A4 n4 d4],.agg #[.slice P0 ua c0,.int .i64 f.ret.1,.int .i64 f.ret.2,.slice P1 ul c1,.slice P2 uc c2],.agg #[.int .i64 7,.int .i64 ia,.int .i64 ib],.slice D k g] w (Chgs w.heap.size [topB ts 1,topB ts 0] [topB ts 0,topB ts 1] w):=by
 have HH:=qAZ H
 have TK:=qAZ qA2
 have PU:=qAZ qA6
 have PL1:=qAZ (fun w=>qAw 1 w)
 clear H
 have FT0:Hid (∀v,Below w.heap.size w v→Calls Tryz.prog 149 #[.slice D k g,.int .i64 0] v (TypIs (topB ts 0) v)):=fun v hb=>qCH D k g 0 ts v HH.out.hk ((HH.out.sk.below hb (qAf _)).wide fun i hi=>qAg hi hb.size) (by have:=HH.out.b5;omega) (by omega)
 have HT0:=qAZ (qDl (n:=0) HH.out.sk.a64)
 have FT1:Hid (∀v,Below w.heap.size w v→Calls Tryz.prog 149 #[.slice D k g,.int .i64 1] v (TypIs (topB ts 1) v)):=fun v hb=>qCH D k g 1 ts v HH.out.hk ((HH.out.sk.below hb (qAf _)).wide fun i hi=>qAg hi hb.size) (by have:=HH.out.b5;omega) (by omega)
 have HT1:=qAZ (qDl (n:=1) HH.out.sk.a64)
 generalize topB ts 0=t at*
 generalize topB ts 1=t2 at*
 go_enter Tryz.func117,Tryz.ntmps117
 go_upto_region 2 with(first
  |(go_at_call 145;(with_reducible refine(PL1.out _).mono ?_);rintro e w1 ⟨rfl,hb1⟩;have HR1:=qAZ hb1;have hs1:=hb1.size;simp at hs1;clear hb1))
 refine qAp fun U hW=> ?_
 have HBU:Hid (Below w.heap.size w U):=by show Below _ _ _;rw[hW];exact(((((qAj w _).alloc (by simp) _).alloc qG _).alloc qG _).trans (HR1.out.mono qG)).alloc (by omega) _
 have HM:Hid (Blk U w.heap.size 28 #[.slice A0 n0 d0,.slice A1 n1 d1,.slice A2 n2 d2,.slice A3 n3 d3,.slice A4 n4 d4]):=by show Blk _ _ _ _;rw[hW];exact qAd (qAc (qAd (qAd (qAd (qAz w _ _)))) HR1.out qG)
 have HF:Hid (Blk U (w.heap.size+1) 61 #[.slice P0 ua c0,.int .i64 f.ret.1,.int .i64 f.ret.2,.slice P1 ul c1,.slice P2 uc c2]):=by show Blk _ _ _ _;rw[hW];exact qAd (qAc (qAd (qAd (qAm (by simp)))) HR1.out qG)
 have HI:Hid (Blk U (w.heap.size+2) 65 #[.int .i64 7,.int .i64 ia,.int .i64 ib]):=by show Blk _ _ _ _;rw[hW];exact qAd (qAc (qAd (qAm (by simp))) HR1.out qG)
 have HRU:Hid (Blk U (w.heap.size+3) 161 #[.slice none 0 0,.slice none 0 0]):=by show Blk _ _ _ _;rw[hW];exact qAd (qAc (qAm (by simp)) HR1.out qG)
 have HG:Hid (Blk U w1.heap.size 58 #[.int .i64 1,.int .i64 0]):=by show Blk _ _ _ _;rw[hW];exact qAm rfl
 have hg1:w.heap.size+4≤w1.heap.size:=by omega
 have hsU:w1.heap.size+1≤U.heap.size:=by rw[hW];simp
 have hop:=HI.out.cell 0
 simp only[List.getElem?_toArray,List.getElem?_cons_zero] at hop
 clear hW
 go_upto_region 20 with(first
  |(go_at_call 149;(with_reducible refine(FT1.out _ HBU.out).mono ?_);rintro e w4 ⟨rfl,hb4⟩;have HR4:=qAZ hb4;have hs4:=hb4.size;clear hb4)
  |(go_at_call 149;(with_reducible refine(FT0.out _ (HBU.out.trans (HR4.out.mono HBU.out.size))).mono ?_);rintro e w5 ⟨rfl,hb5⟩;have HR5:=qAZ hb5;have hs5:=hb5.size;clear hb5))
 have HBl:Hid (Below U.heap.size U w5):=HR4.out.trans (HR5.out.mono HR4.out.size)
 refine qAp fun W hW=> ?_
 have HUW:Hid (Below U.heap.size U W):=by show Below _ _ _;rw[hW];exact(HBl.out.alloc HBl.out.size _).alloc (by have:=HBl.out.size;simp;omega) _
 have hsl:=HBl.out.size
 have HT:Hid (Blk W w5.heap.size 58 #[.int .i64 t2.1,.int .i64 t2.2]∧Blk W (w5.heap.size+1) 58 #[.int .i64 t.1,.int .i64 t.2]):=by show _∧_;rw[hW];exact⟨qAd (qAm rfl),qAm (by simp)⟩
 have hsW:w5.heap.size+2≤W.heap.size:=by rw[hW];simp
 have HBW:Hid (Below w.heap.size w W):=HBU.out.trans (HUW.out.mono HBU.out.size)
 have HRW:Hid (Blk W (w.heap.size+3) 161 #[.slice none 0 0,.slice none 0 0]):=qAc HRU.out HUW.out (by omega)
 clear hW
 have HL:Hid (∀w':World,(∀b,b<W.heap.size→b≠(w.heap.size+3)→w'.heap[b]? =W.heap[b]?)→w'.cell? ⟨w5.heap.size,0,none⟩=some (.int .i64 t2.1)∧w'.cell? ⟨w5.heap.size,1,none⟩=some (.int .i64 t2.2)∧w'.cell? ⟨w5.heap.size+1,0,none⟩=some (.int .i64 t.1)∧w'.cell? ⟨w5.heap.size+1,1,none⟩=some (.int .i64 t.2)):=fun w' hk=>⟨(qAb (hk _ (by show w5.heap.size<_;omega) (by show w5.heap.size≠_;omega))).trans (HT.out.1.cell 0),(qAb (hk _ (by show w5.heap.size<_;omega) (by show w5.heap.size≠_;omega))).trans (HT.out.1.cell 1),(qAb (hk _ (by show w5.heap.size+1<_;omega) (by show w5.heap.size+1≠_;omega))).trans (HT.out.2.cell 0),(qAb (hk _ (by show w5.heap.size+1<_;omega) (by show w5.heap.size+1≠_;omega))).trans (HT.out.2.cell 1)⟩
 have HC:Hid (∀w',Below W.heap.size W w'→w'.cell? ⟨w5.heap.size,0,none⟩=some (.int .i64 t2.1)∧w'.cell? ⟨w5.heap.size,1,none⟩=some (.int .i64 t2.2)∧w'.cell? ⟨w5.heap.size+1,0,none⟩=some (.int .i64 t.1)∧w'.cell? ⟨w5.heap.size+1,1,none⟩=some (.int .i64 t.2)):=fun w' hb=>HL.out w' fun b h1 _=>hb.block b h1
 have HCs:Hid (∀w' u v,Below W.heap.size W w'→((w'.setCell ⟨(w.heap.size+3),0,none⟩ u).setCell ⟨(w.heap.size+3),1,none⟩ v).cell? ⟨w5.heap.size,0,none⟩=some (.int .i64 t2.1)∧((w'.setCell ⟨(w.heap.size+3),0,none⟩ u).setCell ⟨(w.heap.size+3),1,none⟩ v).cell? ⟨w5.heap.size,1,none⟩=some (.int .i64 t2.2)∧((w'.setCell ⟨(w.heap.size+3),0,none⟩ u).setCell ⟨(w.heap.size+3),1,none⟩ v).cell? ⟨w5.heap.size+1,0,none⟩=some (.int .i64 t.1)∧((w'.setCell ⟨(w.heap.size+3),0,none⟩ u).setCell ⟨(w.heap.size+3),1,none⟩ v).cell? ⟨w5.heap.size+1,1,none⟩=some (.int .i64 t.2)):=fun w' u v hb=>HL.out _ fun b h1 h2=>((qAi _ ⟨(w.heap.size+3),1,none⟩ v b h2).trans (qAi _ ⟨(w.heap.size+3),0,none⟩ u b h2)).trans (hb.block b h1)
 have SW:=qAZ (HC.out W (qAe _ _))
 go_wp2_with fail
 go_region_held3 (fun w'=>w'.cell? ⟨w5.heap.size,0,none⟩=some (.int .i64 t2.1)∧w'.cell? ⟨w5.heap.size,1,none⟩=some (.int .i64 t2.2)∧w'.cell? ⟨w5.heap.size+1,0,none⟩=some (.int .i64 t.1)∧w'.cell? ⟨w5.heap.size+1,1,none⟩=some (.int .i64 t.2))
  (first|exact SS8.out|exact SS7.out|(have hz:=HB8.out;clear hz;first|exact HC.out _ (HB8.out.alloc HB8.out.size _)|exact HC.out _ ((HB8.out.alloc HB8.out.size _).alloc (by have:=HB8.out.size;simp;omega) _))|(have hz:=HB7.out;clear hz;first|exact HC.out _ (HB7.out.alloc HB7.out.size _)|exact HC.out _ ((HB7.out.alloc HB7.out.size _).alloc (by have:=HB7.out.size;simp;omega) _))|(have hz:=HB8.out;clear hz;exact HCs.out _ _ _ HB8.out)|(have hz:=HB7.out;clear hz;exact HCs.out _ _ _ HB7.out)|exact SW.out|exact HC.out _ (qAe _ W).drew|exact HC.out _ (qAj W _).drew|exact HC.out _ ((qAj W _).alloc (by simp) _).drew)
  (first
    |(go_at_call 146
      with_reducible refine(TK.out _ _ _ _).mono ?_
      rintro e w7 ⟨rfl,hb7⟩
      have HB7:Hid (Below W.heap.size W w7):=zq
      have HR7:=qAZ hb7
      have hs7:=hb7.size
      try simp at hs7
      have HBk7:Hid (Blk w7 (w.heap.size+3) 161 #[.slice none 0 0,.slice none 0 0]):=qAc HRW.out HB7.out (by omega)
      have hra7:=HBk7.out.cell 0
      have hrb7:=HBk7.out.cell 1
      have hfa7:=HBk7.out.frozen 0
      have hfb7:=HBk7.out.frozen 1
      have SS7:=qAZ (HC.out _ HB7.out)
      clear hb7)
    |(go_at_call 147
      with_reducible refine(PU.out _ _ _ _ _ _ _).mono ?_
      rintro e w8 ⟨rfl,hb8⟩
      have HB8:Hid (Below W.heap.size W w8):=jT
      have HR8:=qAZ hb8
      have hs8:=hb8.size
      try simp at hs8
      have HBk8:Hid (Blk w8 (w.heap.size+3) 161 #[.slice none 0 0,.slice none 0 0]):=qAc HRW.out HB8.out (by omega)
      have hra8:=HBk8.out.cell 0
      have hrb8:=HBk8.out.cell 1
      have hfa8:=HBk8.out.frozen 0
      have hfb8:=HBk8.out.frozen 1
      have SS8:=qAZ (HC.out _ HB8.out)
      clear hb8))
 all_goals
  go_wp2_with fail
  refine bodyPost_ret (qBB rfl _ _ rfl (qBH hra8) (qBG hrb8)) rfl ⟨qA0 (HBW.out.trans (HB8.out.mono HBW.out.size)) (by omega),_,_,_,_,_,_,rfl,?_,?_⟩
  · exact qBK (cs:= #[.int .i64 t2.1,.int .i64 t2.2,.int .i64 t.1,.int .i64 t.2]) (ts:=[t2,t]) (by(repeat(first|((with_reducible refine qAm ?_);simp;done)|with_reducible refine qAd ?_|with_reducible refine qAy ?_|with_reducible refine qAq ?_ (by omega)|with_reducible refine qAc ?_ HR8.out qK|with_reducible refine qAc ?_ HR7.out qK|with_reducible exact HRW.out))) (by omega) rfl (qAx HT1.out (qAx HT0.out (A64.nil))) rfl (by omega)
  · exact qBK (cs:= #[.int .i64 t.1,.int .i64 t.2,.int .i64 t2.1,.int .i64 t2.2]) (ts:=[t,t2]) (by(repeat(first|((with_reducible refine qAm ?_);simp;done)|with_reducible refine qAd ?_|with_reducible refine qAy ?_|with_reducible refine qAq ?_ (by omega)|with_reducible refine qAc ?_ HR8.out qK|with_reducible refine qAc ?_ HR7.out qK|with_reducible exact HRW.out))) (by omega) rfl (qAx HT0.out (qAx HT1.out (A64.nil))) rfl (by omega)
theorem qIG (A0 A1 A2 A3 A4 P0 P1 P2 D:Option Addr) (n0 n1 n2 n3 n4 d0 d1 d2 d3 d4 ua ul uc c0 c1 c2 k g:Nat) (x:Mod) (f:Fn) (ts:List Typ) (ia ib:Int) (w:World) (H:Cx w A0 A1 A2 A3 A4 P0 P1 P2 D n0 n1 n2 n3 n4 d0 d1 d2 d3 d4 ua ul uc c0 c1 c2 k g x f ts) (hia:I64 ia) (q:Fn) (j:Nat) (hj:ia=(j:Int)) (hq:x.funcs[j]? =some q):Calls Tryz.prog 117 #[.agg #[.slice A0 n0 d0,.slice A1 n1 d1,.slice A2 n2 d2,.slice A3 n3 d3,.slice A4 n4 d4],.agg #[.slice P0 ua c0,.int .i64 f.ret.1,.int .i64 f.ret.2,.slice P1 ul c1,.slice P2 uc c2],.agg #[.int .i64 25,.int .i64 ia,.int .i64 ib],.slice D k g] w (Chgs w.heap.size q.args [q.ret] w):=by
 have HH:=qAZ H
 have TK:=qAZ qA2
 have PU:=qAZ qA6
 have PL1:=qAZ (fun w=>qAw 1 w)
 clear H
 subst hj
 have HQ:=qAZ hq
 obtain⟨a,cs,ea,hab,hcl,hr⟩:=HH.out.s1.at hq
 subst ea
 obtain⟨_,_,_,rfl,hq1,hq2,⟨P9,e9,eq9,hle9,hmx9,hsq9⟩,⟨_,_,eq8,-⟩,⟨_,_,eq7,-⟩⟩:=hr
 simp only[List.cons.injEq,and_true] at eq9 eq8 eq7
 subst eq9 eq8 eq7
 have HTS:Hid (tysL.R (·<w.heap.size) w [.slice P9 q.args.length e9] q.args):=⟨P9,e9,rfl,hle9,hmx9,hsq9⟩
 have hjn:(j:Int)<(n1:Int):=by have:=(qAh.1 hq).1;have:=HH.out.l1;omega
 have hqn:n1≤1000:=HH.out.b1
 clear hq hle9 hmx9 hsq9
 generalize q.args.length=qa at*
 go_enter Tryz.func117,Tryz.ntmps117
 go_upto_region 2 with(first
  |(go_at_call 145;(with_reducible refine(PL1.out _).mono ?_);rintro e w1 ⟨rfl,hb1⟩;have HR1:=qAZ hb1;have hs1:=hb1.size;simp at hs1;clear hb1))
 refine qAp fun W hW=> ?_
 have HBW:Hid (Below w.heap.size w W):=by show Below _ _ _;rw[hW];exact(((((qAj w _).alloc (by simp) _).alloc qG _).alloc qG _).trans (HR1.out.mono qG)).alloc (by omega) _
 have HM:Hid (Blk W w.heap.size 28 #[.slice A0 n0 d0,.slice (some a) n1 d1,.slice A2 n2 d2,.slice A3 n3 d3,.slice A4 n4 d4]):=by show Blk _ _ _ _;rw[hW];exact qAd (qAc (qAd (qAd (qAd (qAz w _ _)))) HR1.out qG)
 have HF:Hid (Blk W (w.heap.size+1) 61 #[.slice P0 ua c0,.int .i64 f.ret.1,.int .i64 f.ret.2,.slice P1 ul c1,.slice P2 uc c2]):=by show Blk _ _ _ _;rw[hW];exact qAd (qAc (qAd (qAd (qAm (by simp)))) HR1.out qG)
 have HI:Hid (Blk W (w.heap.size+2) 65 #[.int .i64 25,.int .i64 (j:Int),.int .i64 ib]):=by show Blk _ _ _ _;rw[hW];exact qAd (qAc (qAd (qAm (by simp))) HR1.out qG)
 have HRW:Hid (Blk W (w.heap.size+3) 161 #[.slice none 0 0,.slice none 0 0]):=by show Blk _ _ _ _;rw[hW];exact qAd (qAc (qAm (by simp)) HR1.out qG)
 have HG:Hid (Blk W w1.heap.size 58 #[.int .i64 1,.int .i64 0]):=by show Blk _ _ _ _;rw[hW];exact qAm rfl
 have hg1:w.heap.size+4≤w1.heap.size:=by omega
 have hsW:w1.heap.size+1≤W.heap.size:=by rw[hW];simp
 have hop:=HI.out.cell 0
 simp only[List.getElem?_toArray,List.getElem?_cons_zero] at hop
 clear hW
 have hc0:=(HBW.out.cell (p:=a.add (j*5)) qp).trans (hcl 0 _ rfl)
 have hc1:=(HBW.out.cell (p:=a.add (j*5+1)) qp).trans (hcl 1 _ rfl)
 rw[qAl a (j*5) 1 (by omega)] at hc1
 have hc2:=(HBW.out.cell (p:=a.add (j*5+2)) qp).trans (hcl 2 _ rfl)
 rw[qAl a (j*5) 2 (by omega)] at hc2
 clear hcl
 have HL:Hid (∀w':World,(∀b,b<W.heap.size→b≠(w.heap.size+3)→w'.heap[b]? =W.heap[b]?)→w'.cell? ⟨w.heap.size,1,none⟩=some (.slice (some a) n1 d1)∧w'.cell? ⟨w.heap.size+2,1,none⟩=some (.int .i64 (j:Int))∧w'.cell? (a.add (j*5))=some (.slice P9 qa e9)∧w'.cell? ⟨(a.add (j*5)).block,(a.add (j*5)).off+1,none⟩=some (.int .i64 q.ret.1)∧w'.cell? ⟨(a.add (j*5)).block,(a.add (j*5)).off+2,none⟩=some (.int .i64 q.ret.2)):=fun w' hk=>⟨(qAb (hk _ qAK je)).trans (HM.out.cell 1),(qAb (hk _ zw qU)).trans (HI.out.cell 1),(qAb (hk _ qAS qAN)).trans (hc0),(qAb (hk _ qAS qAN)).trans (hc1),(qAb (hk _ qAS qAN)).trans (hc2)⟩
 have HC:Hid (∀w',Below W.heap.size W w'→w'.cell? ⟨w.heap.size,1,none⟩=some (.slice (some a) n1 d1)∧w'.cell? ⟨w.heap.size+2,1,none⟩=some (.int .i64 (j:Int))∧w'.cell? (a.add (j*5))=some (.slice P9 qa e9)∧w'.cell? ⟨(a.add (j*5)).block,(a.add (j*5)).off+1,none⟩=some (.int .i64 q.ret.1)∧w'.cell? ⟨(a.add (j*5)).block,(a.add (j*5)).off+2,none⟩=some (.int .i64 q.ret.2)):=fun w' hb=>HL.out w' fun b h1 _=>hb.block b h1
 have HCs:Hid (∀w' u v,Below W.heap.size W w'→((w'.setCell ⟨(w.heap.size+3),0,none⟩ u).setCell ⟨(w.heap.size+3),1,none⟩ v).cell? ⟨w.heap.size,1,none⟩=some (.slice (some a) n1 d1)∧((w'.setCell ⟨(w.heap.size+3),0,none⟩ u).setCell ⟨(w.heap.size+3),1,none⟩ v).cell? ⟨w.heap.size+2,1,none⟩=some (.int .i64 (j:Int))∧((w'.setCell ⟨(w.heap.size+3),0,none⟩ u).setCell ⟨(w.heap.size+3),1,none⟩ v).cell? (a.add (j*5))=some (.slice P9 qa e9)∧((w'.setCell ⟨(w.heap.size+3),0,none⟩ u).setCell ⟨(w.heap.size+3),1,none⟩ v).cell? ⟨(a.add (j*5)).block,(a.add (j*5)).off+1,none⟩=some (.int .i64 q.ret.1)∧((w'.setCell ⟨(w.heap.size+3),0,none⟩ u).setCell ⟨(w.heap.size+3),1,none⟩ v).cell? ⟨(a.add (j*5)).block,(a.add (j*5)).off+2,none⟩=some (.int .i64 q.ret.2)):=fun w' u v hb=>HL.out _ fun b h1 h2=>((qAi _ ⟨(w.heap.size+3),1,none⟩ v b h2).trans (qAi _ ⟨(w.heap.size+3),0,none⟩ u b h2)).trans (hb.block b h1)
 have SW:=qAZ (HC.out W (qAe _ _))
 go_wp2_with fail
 go_region_held3 (fun w'=>w'.cell? ⟨w.heap.size,1,none⟩=some (.slice (some a) n1 d1)∧w'.cell? ⟨w.heap.size+2,1,none⟩=some (.int .i64 (j:Int))∧w'.cell? (a.add (j*5))=some (.slice P9 qa e9)∧w'.cell? ⟨(a.add (j*5)).block,(a.add (j*5)).off+1,none⟩=some (.int .i64 q.ret.1)∧w'.cell? ⟨(a.add (j*5)).block,(a.add (j*5)).off+2,none⟩=some (.int .i64 q.ret.2))
  (first|exact SS5.out|exact SS4.out|(have hz:=HB5.out;clear hz;first|exact HC.out _ (HB5.out.alloc HB5.out.size _)|exact HC.out _ ((HB5.out.alloc HB5.out.size _).alloc qw _))|(have hz:=HB4.out;clear hz;first|exact HC.out _ (HB4.out.alloc HB4.out.size _)|exact HC.out _ ((HB4.out.alloc HB4.out.size _).alloc jC _))|(have hz:=HB5.out;clear hz;exact HCs.out _ _ _ HB5.out)|(have hz:=HB4.out;clear hz;exact HCs.out _ _ _ HB4.out)|exact SW.out|exact HC.out _ (qAe _ W).drew|exact HC.out _ (qAj W _).drew|exact HC.out _ ((qAj W _).alloc (by simp) _).drew)
  (first
    |(go_at_call 146
      with_reducible refine(TK.out _ _ _ _).mono ?_
      rintro e w4 ⟨rfl,hb4⟩
      have HB4:Hid (Below W.heap.size W w4):=qB
      have HR4:=qAZ hb4
      have hs4:=hb4.size
      try simp at hs4
      have HBk4:Hid (Blk w4 (w.heap.size+3) 161 #[.slice none 0 0,.slice none 0 0]):=qAc HRW.out HB4.out (by omega)
      have hra4:=HBk4.out.cell 0
      have hrb4:=HBk4.out.cell 1
      have hfa4:=HBk4.out.frozen 0
      have hfb4:=HBk4.out.frozen 1
      have SS4:=qAZ (HC.out _ HB4.out)
      clear hb4)
    |(go_at_call 147
      with_reducible refine(PU.out _ _ _ _ _ _ _).mono ?_
      rintro e w5 ⟨rfl,hb5⟩
      have HB5:Hid (Below W.heap.size W w5):=qH
      have HR5:=qAZ hb5
      have hs5:=hb5.size
      try simp at hs5
      have HBk5:Hid (Blk w5 (w.heap.size+3) 161 #[.slice none 0 0,.slice none 0 0]):=qAc HRW.out HB5.out (by omega)
      have hra5:=HBk5.out.cell 0
      have hrb5:=HBk5.out.cell 1
      have hfa5:=HBk5.out.frozen 0
      have hfb5:=HBk5.out.frozen 1
      have SS5:=qAZ (HC.out _ HB5.out)
      clear hb5))
 all_goals
  go_wp2_with fail
  refine bodyPost_ret (qBB rfl _ _ rfl (qBH hra5) (qBG hrb5)) rfl ⟨qA0 (HBW.out.trans (HB5.out.mono HBW.out.size)) (by omega),_,_,_,_,_,_,rfl,?_,?_⟩
  · exact jh
  · exact qBK (cs:= #[.int .i64 q.ret.1,.int .i64 q.ret.2]) (ts:=[q.ret]) (by(repeat(first|((with_reducible refine qAm ?_);simp;done)|with_reducible refine qAd ?_|with_reducible refine qAy ?_|with_reducible refine qAq ?_ (by omega)|with_reducible refine qAc ?_ HR5.out qK|with_reducible refine qAc ?_ HR4.out qK|with_reducible exact HRW.out))) (by omega) rfl (qAx ⟨hq1,hq2⟩ (A64.nil)) rfl (by omega)
theorem qIE (A0 A1 A2 A3 A4 P0 P1 P2 D:Option Addr) (n0 n1 n2 n3 n4 d0 d1 d2 d3 d4 ua ul uc c0 c1 c2 k g:Nat) (x:Mod) (f:Fn) (ts:List Typ) (ia ib:Int) (w:World) (H:Cx w A0 A1 A2 A3 A4 P0 P1 P2 D n0 n1 n2 n3 n4 d0 d1 d2 d3 d4 ua ul uc c0 c1 c2 k g x f ts) (hia:I64 ia) (q:Imp) (j:Nat) (hj:ia=(j:Int)) (hq:x.imps[j]? =some q):Calls Tryz.prog 117 #[.agg #[.slice A0 n0 d0,.slice A1 n1 d1,.slice A2 n2 d2,.slice A3 n3 d3,.slice A4 n4 d4],.agg #[.slice P0 ua c0,.int .i64 f.ret.1,.int .i64 f.ret.2,.slice P1 ul c1,.slice P2 uc c2],.agg #[.int .i64 27,.int .i64 ia,.int .i64 ib],.slice D k g] w (Chgs w.heap.size q.args [q.ret] w):=by
 have HH:=qAZ H
 have TK:=qAZ qA2
 have PU:=qAZ qA6
 have PL1:=qAZ (fun w=>qAw 1 w)
 clear H
 subst hj
 have HQ:=qAZ hq
 obtain⟨a,cs,ea,hab,hcl,hr⟩:=HH.out.s2.at hq
 subst ea
 obtain⟨_,rfl,hq1,hq2,⟨P9,e9,eq9,hle9,hmx9,hsq9⟩⟩:=hr
 simp only[List.cons.injEq,and_true] at eq9
 subst eq9
 have HTS:Hid (tysL.R (·<w.heap.size) w [.slice P9 q.args.length e9] q.args):=⟨P9,e9,rfl,hle9,hmx9,hsq9⟩
 have hjn:(j:Int)<(n2:Int):=by have:=(qAh.1 hq).1;have:=HH.out.l2;omega
 have hqn:n2≤1000:=HH.out.b2
 clear hq hle9 hmx9 hsq9
 generalize q.args.length=qa at*
 go_enter Tryz.func117,Tryz.ntmps117
 go_upto_region 2 with(first
  |(go_at_call 145;(with_reducible refine(PL1.out _).mono ?_);rintro e w1 ⟨rfl,hb1⟩;have HR1:=qAZ hb1;have hs1:=hb1.size;simp at hs1;clear hb1))
 refine qAp fun W hW=> ?_
 have HBW:Hid (Below w.heap.size w W):=by show Below _ _ _;rw[hW];exact(((((qAj w _).alloc (by simp) _).alloc qG _).alloc qG _).trans (HR1.out.mono qG)).alloc (by omega) _
 have HM:Hid (Blk W w.heap.size 28 #[.slice A0 n0 d0,.slice A1 n1 d1,.slice (some a) n2 d2,.slice A3 n3 d3,.slice A4 n4 d4]):=by show Blk _ _ _ _;rw[hW];exact qAd (qAc (qAd (qAd (qAd (qAz w _ _)))) HR1.out qG)
 have HF:Hid (Blk W (w.heap.size+1) 61 #[.slice P0 ua c0,.int .i64 f.ret.1,.int .i64 f.ret.2,.slice P1 ul c1,.slice P2 uc c2]):=by show Blk _ _ _ _;rw[hW];exact qAd (qAc (qAd (qAd (qAm (by simp)))) HR1.out qG)
 have HI:Hid (Blk W (w.heap.size+2) 65 #[.int .i64 27,.int .i64 (j:Int),.int .i64 ib]):=by show Blk _ _ _ _;rw[hW];exact qAd (qAc (qAd (qAm (by simp))) HR1.out qG)
 have HRW:Hid (Blk W (w.heap.size+3) 161 #[.slice none 0 0,.slice none 0 0]):=by show Blk _ _ _ _;rw[hW];exact qAd (qAc (qAm (by simp)) HR1.out qG)
 have HG:Hid (Blk W w1.heap.size 58 #[.int .i64 1,.int .i64 0]):=by show Blk _ _ _ _;rw[hW];exact qAm rfl
 have hg1:w.heap.size+4≤w1.heap.size:=by omega
 have hsW:w1.heap.size+1≤W.heap.size:=by rw[hW];simp
 have hop:=HI.out.cell 0
 simp only[List.getElem?_toArray,List.getElem?_cons_zero] at hop
 clear hW
 have hc0:=(HBW.out.cell (p:=a.add (j*3)) qp).trans (hcl 0 _ rfl)
 have hc1:=(HBW.out.cell (p:=a.add (j*3+1)) qp).trans (hcl 1 _ rfl)
 rw[qAl a (j*3) 1 (by omega)] at hc1
 have hc2:=(HBW.out.cell (p:=a.add (j*3+2)) qp).trans (hcl 2 _ rfl)
 rw[qAl a (j*3) 2 (by omega)] at hc2
 clear hcl
 have HL:Hid (∀w':World,(∀b,b<W.heap.size→b≠(w.heap.size+3)→w'.heap[b]? =W.heap[b]?)→w'.cell? ⟨w.heap.size,2,none⟩=some (.slice (some a) n2 d2)∧w'.cell? ⟨w.heap.size+2,1,none⟩=some (.int .i64 (j:Int))∧w'.cell? (a.add (j*3))=some (.slice P9 qa e9)∧w'.cell? ⟨(a.add (j*3)).block,(a.add (j*3)).off+1,none⟩=some (.int .i64 q.ret.1)∧w'.cell? ⟨(a.add (j*3)).block,(a.add (j*3)).off+2,none⟩=some (.int .i64 q.ret.2)):=fun w' hk=>⟨(qAb (hk _ qAK je)).trans (HM.out.cell 2),(qAb (hk _ zw qU)).trans (HI.out.cell 1),(qAb (hk _ qAR qAM)).trans (hc0),(qAb (hk _ qAR qAM)).trans (hc1),(qAb (hk _ qAR qAM)).trans (hc2)⟩
 have HC:Hid (∀w',Below W.heap.size W w'→w'.cell? ⟨w.heap.size,2,none⟩=some (.slice (some a) n2 d2)∧w'.cell? ⟨w.heap.size+2,1,none⟩=some (.int .i64 (j:Int))∧w'.cell? (a.add (j*3))=some (.slice P9 qa e9)∧w'.cell? ⟨(a.add (j*3)).block,(a.add (j*3)).off+1,none⟩=some (.int .i64 q.ret.1)∧w'.cell? ⟨(a.add (j*3)).block,(a.add (j*3)).off+2,none⟩=some (.int .i64 q.ret.2)):=fun w' hb=>HL.out w' fun b h1 _=>hb.block b h1
 have HCs:Hid (∀w' u v,Below W.heap.size W w'→((w'.setCell ⟨(w.heap.size+3),0,none⟩ u).setCell ⟨(w.heap.size+3),1,none⟩ v).cell? ⟨w.heap.size,2,none⟩=some (.slice (some a) n2 d2)∧((w'.setCell ⟨(w.heap.size+3),0,none⟩ u).setCell ⟨(w.heap.size+3),1,none⟩ v).cell? ⟨w.heap.size+2,1,none⟩=some (.int .i64 (j:Int))∧((w'.setCell ⟨(w.heap.size+3),0,none⟩ u).setCell ⟨(w.heap.size+3),1,none⟩ v).cell? (a.add (j*3))=some (.slice P9 qa e9)∧((w'.setCell ⟨(w.heap.size+3),0,none⟩ u).setCell ⟨(w.heap.size+3),1,none⟩ v).cell? ⟨(a.add (j*3)).block,(a.add (j*3)).off+1,none⟩=some (.int .i64 q.ret.1)∧((w'.setCell ⟨(w.heap.size+3),0,none⟩ u).setCell ⟨(w.heap.size+3),1,none⟩ v).cell? ⟨(a.add (j*3)).block,(a.add (j*3)).off+2,none⟩=some (.int .i64 q.ret.2)):=fun w' u v hb=>HL.out _ fun b h1 h2=>((qAi _ ⟨(w.heap.size+3),1,none⟩ v b h2).trans (qAi _ ⟨(w.heap.size+3),0,none⟩ u b h2)).trans (hb.block b h1)
 have SW:=qAZ (HC.out W (qAe _ _))
 go_wp2_with fail
 go_region_held3 (fun w'=>w'.cell? ⟨w.heap.size,2,none⟩=some (.slice (some a) n2 d2)∧w'.cell? ⟨w.heap.size+2,1,none⟩=some (.int .i64 (j:Int))∧w'.cell? (a.add (j*3))=some (.slice P9 qa e9)∧w'.cell? ⟨(a.add (j*3)).block,(a.add (j*3)).off+1,none⟩=some (.int .i64 q.ret.1)∧w'.cell? ⟨(a.add (j*3)).block,(a.add (j*3)).off+2,none⟩=some (.int .i64 q.ret.2))
  (first|exact SS5.out|exact SS4.out|(have hz:=HB5.out;clear hz;first|exact HC.out _ (HB5.out.alloc HB5.out.size _)|exact HC.out _ ((HB5.out.alloc HB5.out.size _).alloc qw _))|(have hz:=HB4.out;clear hz;first|exact HC.out _ (HB4.out.alloc HB4.out.size _)|exact HC.out _ ((HB4.out.alloc HB4.out.size _).alloc jC _))|(have hz:=HB5.out;clear hz;exact HCs.out _ _ _ HB5.out)|(have hz:=HB4.out;clear hz;exact HCs.out _ _ _ HB4.out)|exact SW.out|exact HC.out _ (qAe _ W).drew|exact HC.out _ (qAj W _).drew|exact HC.out _ ((qAj W _).alloc (by simp) _).drew)
  (first
    |(go_at_call 146
      with_reducible refine(TK.out _ _ _ _).mono ?_
      rintro e w4 ⟨rfl,hb4⟩
      have HB4:Hid (Below W.heap.size W w4):=qB
      have HR4:=qAZ hb4
      have hs4:=hb4.size
      try simp at hs4
      have HBk4:Hid (Blk w4 (w.heap.size+3) 161 #[.slice none 0 0,.slice none 0 0]):=qAc HRW.out HB4.out (by omega)
      have hra4:=HBk4.out.cell 0
      have hrb4:=HBk4.out.cell 1
      have hfa4:=HBk4.out.frozen 0
      have hfb4:=HBk4.out.frozen 1
      have SS4:=qAZ (HC.out _ HB4.out)
      clear hb4)
    |(go_at_call 147
      with_reducible refine(PU.out _ _ _ _ _ _ _).mono ?_
      rintro e w5 ⟨rfl,hb5⟩
      have HB5:Hid (Below W.heap.size W w5):=qH
      have HR5:=qAZ hb5
      have hs5:=hb5.size
      try simp at hs5
      have HBk5:Hid (Blk w5 (w.heap.size+3) 161 #[.slice none 0 0,.slice none 0 0]):=qAc HRW.out HB5.out (by omega)
      have hra5:=HBk5.out.cell 0
      have hrb5:=HBk5.out.cell 1
      have hfa5:=HBk5.out.frozen 0
      have hfb5:=HBk5.out.frozen 1
      have SS5:=qAZ (HC.out _ HB5.out)
      clear hb5))
 all_goals
  go_wp2_with fail
  refine bodyPost_ret (qBB rfl _ _ rfl (qBH hra5) (qBG hrb5)) rfl ⟨qA0 (HBW.out.trans (HB5.out.mono HBW.out.size)) (by omega),_,_,_,_,_,_,rfl,?_,?_⟩
  · exact jh
  · exact qBK (cs:= #[.int .i64 q.ret.1,.int .i64 q.ret.2]) (ts:=[q.ret]) (by(repeat(first|((with_reducible refine qAm ?_);simp;done)|with_reducible refine qAd ?_|with_reducible refine qAy ?_|with_reducible refine qAq ?_ (by omega)|with_reducible refine qAc ?_ HR5.out qK|with_reducible refine qAc ?_ HR4.out qK|with_reducible exact HRW.out))) (by omega) rfl (qAx ⟨hq1,hq2⟩ (A64.nil)) rfl (by omega)
end Go.Proofs.YtconajaecpgjgaaGreat
