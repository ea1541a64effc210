/-
Fcb
-/
import Derived.Test.YtconajaecpgjgaaGreatQ18
set_option linter.unusedSimpArgs false
set_option linter.unusedVariables false
set_option maxRecDepth 100000
set_option maxHeartbeats 4000000
namespace Go.Proofs.YtconajaecpgjgaaGreat
open Go.RowKit
theorem qIt (A0 A1 A2 A3 A4 P0 P1 P2 D:Option Addr) (n0 n1 n2 n3 n4 d0 d1 d2 d3 d4 ua ul uc c0 c1 c2 k g:Nat) (x:Mod) (f:Fn) (ts:List Typ) (ia ib:Int) (w:World) (H:Cx w A0 A1 A2 A3 A4 P0 P1 P2 D n0 n1 n2 n3 n4 d0 d1 d2 d3 d4 ua ul uc c0 c1 c2 k g x f ts) (hia:I64 ia):Calls Tryz.prog 117 #[.agg #[.slice A0 n0 d0,.slice A1 n1 d1,.slice A2 n2 d2,.slice A3 n3 d3,.slice A4 n4 d4],.agg #[.slice P0 ua c0,.int .i64 f.ret.1,.int .i64 f.ret.2,.slice P1 ul c1,.slice P2 uc c2],.agg #[.int .i64 22,.int .i64 ia,.int .i64 ib],.slice D k g] w (Chgs w.heap.size [(1,0),(1,0)] [(1,0),(1,0)] w):=by
 have HH:=qAU H
 have TK:=qAU qAx
 have PU:=qAU qA2
 have PL1:=qAU (fun w=>qAp 1 w)
 clear H
 go_enter Tryz.func117,Tryz.ntmps117
 go_upto_region 2 with(first
  |(go_at_call 145;(with_reducible refine(PL1.out _).mono ?_);rintro e w1 ⟨rfl,hb1⟩;have HR1:=qAU hb1;have hs1:=hb1.size;simp at hs1;clear hb1))
 refine qAj fun W hW=> ?_
 have HBW:Hid (Below w.heap.size w W):=by show Below _ _ _;rw[hW];exact(((((qAe w _).alloc (by simp) _).alloc qE _).alloc qE _).trans (HR1.out.mono qE)).alloc (by omega) _
 have HM:Hid (Blk W w.heap.size 28 #[.slice A0 n0 d0,.slice A1 n1 d1,.slice A2 n2 d2,.slice A3 n3 d3,.slice A4 n4 d4]):=by show Blk _ _ _ _;rw[hW];exact qAV (qAX (qAV (qAV (qAV (qAt w _ _)))) HR1.out qE)
 have HF:Hid (Blk W (w.heap.size+1) 61 #[.slice P0 ua c0,.int .i64 f.ret.1,.int .i64 f.ret.2,.slice P1 ul c1,.slice P2 uc c2]):=by show Blk _ _ _ _;rw[hW];exact qAV (qAX (qAV (qAV (qAh (by simp)))) HR1.out qE)
 have HI:Hid (Blk W (w.heap.size+2) 65 #[.int .i64 22,.int .i64 ia,.int .i64 ib]):=by show Blk _ _ _ _;rw[hW];exact qAV (qAX (qAV (qAh (by simp))) HR1.out qE)
 have HRW:Hid (Blk W (w.heap.size+3) 161 #[.slice none 0 0,.slice none 0 0]):=by show Blk _ _ _ _;rw[hW];exact qAV (qAX (qAh (by simp)) HR1.out qE)
 have HG:Hid (Blk W w1.heap.size 58 #[.int .i64 1,.int .i64 0]):=by show Blk _ _ _ _;rw[hW];exact qAh rfl
 have hg1:w.heap.size+4≤w1.heap.size:=by omega
 have hsW:w1.heap.size+1≤W.heap.size:=by rw[hW];simp
 have hop:=HI.out.cell 0
 simp only[List.getElem?_toArray,List.getElem?_cons_zero] at hop
 clear hW
 have HL:Hid (∀w':World,(∀b,b<W.heap.size→b≠(w.heap.size+3)→w'.heap[b]? =W.heap[b]?)→w'.cell? ⟨w1.heap.size,0,none⟩=some (.int .i64 1)∧w'.cell? ⟨w1.heap.size,1,none⟩=some (.int .i64 0)):=fun w' hk=>⟨(qAW (hk _ zz q7)).trans (HG.out.cell 0),(qAW (hk _ zz q7)).trans (HG.out.cell 1)⟩
 have HC:Hid (∀w',Below W.heap.size W w'→w'.cell? ⟨w1.heap.size,0,none⟩=some (.int .i64 1)∧w'.cell? ⟨w1.heap.size,1,none⟩=some (.int .i64 0)):=fun w' hb=>HL.out w' fun b h1 _=>hb.block b h1
 have HCs:Hid (∀w' u v,Below W.heap.size W w'→((w'.setCell ⟨(w.heap.size+3),0,none⟩ u).setCell ⟨(w.heap.size+3),1,none⟩ v).cell? ⟨w1.heap.size,0,none⟩=some (.int .i64 1)∧((w'.setCell ⟨(w.heap.size+3),0,none⟩ u).setCell ⟨(w.heap.size+3),1,none⟩ v).cell? ⟨w1.heap.size,1,none⟩=some (.int .i64 0)):=fun w' u v hb=>HL.out _ fun b h1 h2=>((qAd _ ⟨(w.heap.size+3),1,none⟩ v b h2).trans (qAd _ ⟨(w.heap.size+3),0,none⟩ u b h2)).trans (hb.block b h1)
 have SW:=qAU (HC.out W (qAb _ _))
 go_wp2_with fail
 go_region_held3 (fun w'=>w'.cell? ⟨w1.heap.size,0,none⟩=some (.int .i64 1)∧w'.cell? ⟨w1.heap.size,1,none⟩=some (.int .i64 0))
  (first|exact SS5.out|exact SS4.out|(have hz:=HB5.out;clear hz;first|exact HC.out _ (HB5.out.alloc HB5.out.size _)|exact HC.out _ ((HB5.out.alloc HB5.out.size _).alloc qx _))|(have hz:=HB4.out;clear hz;first|exact HC.out _ (HB4.out.alloc HB4.out.size _)|exact HC.out _ ((HB4.out.alloc HB4.out.size _).alloc jA _))|(have hz:=HB5.out;clear hz;exact HCs.out _ _ _ HB5.out)|(have hz:=HB4.out;clear hz;exact HCs.out _ _ _ HB4.out)|exact SW.out|exact HC.out _ (qAb _ W).drew|exact HC.out _ (qAe W _).drew|exact HC.out _ ((qAe W _).alloc (by simp) _).drew)
  (first
    |(go_at_call 146
      with_reducible refine(TK.out _ _ _ _).mono ?_
      rintro e w4 ⟨rfl,hb4⟩
      have HB4:Hid (Below W.heap.size W w4):=qB
      have HR4:=qAU hb4
      have hs4:=hb4.size
      try simp at hs4
      have HBk4:Hid (Blk w4 (w.heap.size+3) 161 #[.slice none 0 0,.slice none 0 0]):=qAX HRW.out HB4.out (by omega)
      have hra4:=HBk4.out.cell 0
      have hrb4:=HBk4.out.cell 1
      have hfa4:=HBk4.out.frozen 0
      have hfb4:=HBk4.out.frozen 1
      have SS4:=qAU (HC.out _ HB4.out)
      clear hb4)
    |(go_at_call 147
      with_reducible refine(PU.out _ _ _ _ _ _ _).mono ?_
      rintro e w5 ⟨rfl,hb5⟩
      have HB5:Hid (Below W.heap.size W w5):=qH
      have HR5:=qAU hb5
      have hs5:=hb5.size
      try simp at hs5
      have HBk5:Hid (Blk w5 (w.heap.size+3) 161 #[.slice none 0 0,.slice none 0 0]):=qAX HRW.out HB5.out (by omega)
      have hra5:=HBk5.out.cell 0
      have hrb5:=HBk5.out.cell 1
      have hfa5:=HBk5.out.frozen 0
      have hfb5:=HBk5.out.frozen 1
      have SS5:=qAU (HC.out _ HB5.out)
      clear hb5))
 all_goals
  go_wp2_with fail
  refine bodyPost_ret (qA5 rfl _ _ rfl (qBD hra5) (qBC hrb5)) rfl ⟨qAu (HBW.out.trans (HB5.out.mono HBW.out.size)) (by omega),_,_,_,_,_,_,rfl,?_,?_⟩
  · exact qX
  · exact qX
theorem qIs (A0 A1 A2 A3 A4 P0 P1 P2 D:Option Addr) (n0 n1 n2 n3 n4 d0 d1 d2 d3 d4 ua ul uc c0 c1 c2 k g:Nat) (x:Mod) (f:Fn) (ts:List Typ) (ia ib:Int) (w:World) (H:Cx w A0 A1 A2 A3 A4 P0 P1 P2 D n0 n1 n2 n3 n4 d0 d1 d2 d3 d4 ua ul uc c0 c1 c2 k g x f ts) (hia:I64 ia):Calls Tryz.prog 117 #[.agg #[.slice A0 n0 d0,.slice A1 n1 d1,.slice A2 n2 d2,.slice A3 n3 d3,.slice A4 n4 d4],.agg #[.slice P0 ua c0,.int .i64 f.ret.1,.int .i64 f.ret.2,.slice P1 ul c1,.slice P2 uc c2],.agg #[.int .i64 23,.int .i64 ia,.int .i64 ib],.slice D k g] w (Chgs w.heap.size [] [] w):=by
 have HH:=qAU H
 have TK:=qAU qAx
 have PU:=qAU qA2
 have PL1:=qAU (fun w=>qAp 1 w)
 clear H
 go_enter Tryz.func117,Tryz.ntmps117
 go_upto_region 2 with(first
  |(go_at_call 145;(with_reducible refine(PL1.out _).mono ?_);rintro e w1 ⟨rfl,hb1⟩;have HR1:=qAU hb1;have hs1:=hb1.size;simp at hs1;clear hb1))
 refine qAj fun W hW=> ?_
 have HBW:Hid (Below w.heap.size w W):=by show Below _ _ _;rw[hW];exact(((((qAe w _).alloc (by simp) _).alloc qE _).alloc qE _).trans (HR1.out.mono qE)).alloc (by omega) _
 have HM:Hid (Blk W w.heap.size 28 #[.slice A0 n0 d0,.slice A1 n1 d1,.slice A2 n2 d2,.slice A3 n3 d3,.slice A4 n4 d4]):=by show Blk _ _ _ _;rw[hW];exact qAV (qAX (qAV (qAV (qAV (qAt w _ _)))) HR1.out qE)
 have HF:Hid (Blk W (w.heap.size+1) 61 #[.slice P0 ua c0,.int .i64 f.ret.1,.int .i64 f.ret.2,.slice P1 ul c1,.slice P2 uc c2]):=by show Blk _ _ _ _;rw[hW];exact qAV (qAX (qAV (qAV (qAh (by simp)))) HR1.out qE)
 have HI:Hid (Blk W (w.heap.size+2) 65 #[.int .i64 23,.int .i64 ia,.int .i64 ib]):=by show Blk _ _ _ _;rw[hW];exact qAV (qAX (qAV (qAh (by simp))) HR1.out qE)
 have HRW:Hid (Blk W (w.heap.size+3) 161 #[.slice none 0 0,.slice none 0 0]):=by show Blk _ _ _ _;rw[hW];exact qAV (qAX (qAh (by simp)) HR1.out qE)
 have HG:Hid (Blk W w1.heap.size 58 #[.int .i64 1,.int .i64 0]):=by show Blk _ _ _ _;rw[hW];exact qAh rfl
 have hg1:w.heap.size+4≤w1.heap.size:=by omega
 have hsW:w1.heap.size+1≤W.heap.size:=by rw[hW];simp
 have hop:=HI.out.cell 0
 simp only[List.getElem?_toArray,List.getElem?_cons_zero] at hop
 clear hW
 have HL:Hid (∀w':World,(∀b,b<W.heap.size→b≠(w.heap.size+3)→w'.heap[b]? =W.heap[b]?)→w'.cell? ⟨w1.heap.size,0,none⟩=some (.int .i64 1)∧w'.cell? ⟨w1.heap.size,1,none⟩=some (.int .i64 0)):=fun w' hk=>⟨(qAW (hk _ zz q7)).trans (HG.out.cell 0),(qAW (hk _ zz q7)).trans (HG.out.cell 1)⟩
 have HC:Hid (∀w',Below W.heap.size W w'→w'.cell? ⟨w1.heap.size,0,none⟩=some (.int .i64 1)∧w'.cell? ⟨w1.heap.size,1,none⟩=some (.int .i64 0)):=fun w' hb=>HL.out w' fun b h1 _=>hb.block b h1
 have HCs:Hid (∀w' u v,Below W.heap.size W w'→((w'.setCell ⟨(w.heap.size+3),0,none⟩ u).setCell ⟨(w.heap.size+3),1,none⟩ v).cell? ⟨w1.heap.size,0,none⟩=some (.int .i64 1)∧((w'.setCell ⟨(w.heap.size+3),0,none⟩ u).setCell ⟨(w.heap.size+3),1,none⟩ v).cell? ⟨w1.heap.size,1,none⟩=some (.int .i64 0)):=fun w' u v hb=>HL.out _ fun b h1 h2=>((qAd _ ⟨(w.heap.size+3),1,none⟩ v b h2).trans (qAd _ ⟨(w.heap.size+3),0,none⟩ u b h2)).trans (hb.block b h1)
 have SW:=qAU (HC.out W (qAb _ _))
 go_wp2_with (first
  |(go_at_call 146
    with_reducible refine(TK.out _ _ _ _).mono ?_
    rintro e w4 ⟨rfl,hb4⟩
    have HB4:Hid (Below W.heap.size W w4):=qB
    have HR4:=qAU hb4
    have hs4:=hb4.size
    try simp at hs4
    have HBk4:Hid (Blk w4 (w.heap.size+3) 161 #[.slice none 0 0,.slice none 0 0]):=qAX HRW.out HB4.out (by omega)
    have hra4:=HBk4.out.cell 0
    have hrb4:=HBk4.out.cell 1
    have hfa4:=HBk4.out.frozen 0
    have hfb4:=HBk4.out.frozen 1
    have SS4:=qAU (HC.out _ HB4.out)
    clear hb4))
 refine bodyPost_ret (qA5 rfl _ _ rfl (qBD hra4) (qBC hrb4)) rfl ⟨qAu (HBW.out.trans (HB4.out.mono HBW.out.size)) (by omega),_,_,_,_,_,_,rfl,?_,?_⟩
 · exact zv
 · exact zv
theorem qIr (A0 A1 A2 A3 A4 P0 P1 P2 D:Option Addr) (n0 n1 n2 n3 n4 d0 d1 d2 d3 d4 ua ul uc c0 c1 c2 k g:Nat) (x:Mod) (f:Fn) (ts:List Typ) (ia ib:Int) (w:World) (H:Cx w A0 A1 A2 A3 A4 P0 P1 P2 D n0 n1 n2 n3 n4 d0 d1 d2 d3 d4 ua ul uc c0 c1 c2 k g x f ts) (hia:I64 ia):Calls Tryz.prog 117 #[.agg #[.slice A0 n0 d0,.slice A1 n1 d1,.slice A2 n2 d2,.slice A3 n3 d3,.slice A4 n4 d4],.agg #[.slice P0 ua c0,.int .i64 f.ret.1,.int .i64 f.ret.2,.slice P1 ul c1,.slice P2 uc c2],.agg #[.int .i64 24,.int .i64 ia,.int .i64 ib],.slice D k g] w (Chgs w.heap.size [(1,0)] [] w):=by
 have HH:=qAU H
 have TK:=qAU qAx
 have PU:=qAU qA2
 have PL1:=qAU (fun w=>qAp 1 w)
 clear H
 go_enter Tryz.func117,Tryz.ntmps117
 go_upto_region 2 with(first
  |(go_at_call 145;(with_reducible refine(PL1.out _).mono ?_);rintro e w1 ⟨rfl,hb1⟩;have HR1:=qAU hb1;have hs1:=hb1.size;simp at hs1;clear hb1))
 refine qAj fun W hW=> ?_
 have HBW:Hid (Below w.heap.size w W):=by show Below _ _ _;rw[hW];exact(((((qAe w _).alloc (by simp) _).alloc qE _).alloc qE _).trans (HR1.out.mono qE)).alloc (by omega) _
 have HM:Hid (Blk W w.heap.size 28 #[.slice A0 n0 d0,.slice A1 n1 d1,.slice A2 n2 d2,.slice A3 n3 d3,.slice A4 n4 d4]):=by show Blk _ _ _ _;rw[hW];exact qAV (qAX (qAV (qAV (qAV (qAt w _ _)))) HR1.out qE)
 have HF:Hid (Blk W (w.heap.size+1) 61 #[.slice P0 ua c0,.int .i64 f.ret.1,.int .i64 f.ret.2,.slice P1 ul c1,.slice P2 uc c2]):=by show Blk _ _ _ _;rw[hW];exact qAV (qAX (qAV (qAV (qAh (by simp)))) HR1.out qE)
 have HI:Hid (Blk W (w.heap.size+2) 65 #[.int .i64 24,.int .i64 ia,.int .i64 ib]):=by show Blk _ _ _ _;rw[hW];exact qAV (qAX (qAV (qAh (by simp))) HR1.out qE)
 have HRW:Hid (Blk W (w.heap.size+3) 161 #[.slice none 0 0,.slice none 0 0]):=by show Blk _ _ _ _;rw[hW];exact qAV (qAX (qAh (by simp)) HR1.out qE)
 have HG:Hid (Blk W w1.heap.size 58 #[.int .i64 1,.int .i64 0]):=by show Blk _ _ _ _;rw[hW];exact qAh rfl
 have hg1:w.heap.size+4≤w1.heap.size:=by omega
 have hsW:w1.heap.size+1≤W.heap.size:=by rw[hW];simp
 have hop:=HI.out.cell 0
 simp only[List.getElem?_toArray,List.getElem?_cons_zero] at hop
 clear hW
 have HL:Hid (∀w':World,(∀b,b<W.heap.size→b≠(w.heap.size+3)→w'.heap[b]? =W.heap[b]?)→w'.cell? ⟨w1.heap.size,0,none⟩=some (.int .i64 1)∧w'.cell? ⟨w1.heap.size,1,none⟩=some (.int .i64 0)):=fun w' hk=>⟨(qAW (hk _ zz q7)).trans (HG.out.cell 0),(qAW (hk _ zz q7)).trans (HG.out.cell 1)⟩
 have HC:Hid (∀w',Below W.heap.size W w'→w'.cell? ⟨w1.heap.size,0,none⟩=some (.int .i64 1)∧w'.cell? ⟨w1.heap.size,1,none⟩=some (.int .i64 0)):=fun w' hb=>HL.out w' fun b h1 _=>hb.block b h1
 have HCs:Hid (∀w' u v,Below W.heap.size W w'→((w'.setCell ⟨(w.heap.size+3),0,none⟩ u).setCell ⟨(w.heap.size+3),1,none⟩ v).cell? ⟨w1.heap.size,0,none⟩=some (.int .i64 1)∧((w'.setCell ⟨(w.heap.size+3),0,none⟩ u).setCell ⟨(w.heap.size+3),1,none⟩ v).cell? ⟨w1.heap.size,1,none⟩=some (.int .i64 0)):=fun w' u v hb=>HL.out _ fun b h1 h2=>((qAd _ ⟨(w.heap.size+3),1,none⟩ v b h2).trans (qAd _ ⟨(w.heap.size+3),0,none⟩ u b h2)).trans (hb.block b h1)
 have SW:=qAU (HC.out W (qAb _ _))
 obtain⟨z0,z1⟩:=SW.out
 go_wp2_with (first
  |(go_at_call 146
    with_reducible refine(TK.out _ _ _ _).mono ?_
    rintro e w4 ⟨rfl,hb4⟩
    have HB4:Hid (Below W.heap.size W w4):=qB
    have HR4:=qAU hb4
    have hs4:=hb4.size
    try simp at hs4
    have HBk4:Hid (Blk w4 (w.heap.size+3) 161 #[.slice none 0 0,.slice none 0 0]):=qAX HRW.out HB4.out (by omega)
    have hra4:=HBk4.out.cell 0
    have hrb4:=HBk4.out.cell 1
    have hfa4:=HBk4.out.frozen 0
    have hfb4:=HBk4.out.frozen 1
    have SS4:=qAU (HC.out _ HB4.out)
    clear hb4))
 refine bodyPost_ret (qA5 rfl _ _ rfl (qBD hra4) (qBC hrb4)) rfl ⟨qAu (HBW.out.trans (HB4.out.mono HBW.out.size)) (by omega),_,_,_,_,_,_,rfl,?_,?_⟩
 · exact qBG (cs:= #[.int .i64 1,.int .i64 0]) (ts:=[(1,0)]) (by(repeat(first|((with_reducible refine qAh ?_);simp;done)|with_reducible refine qAV ?_|with_reducible refine qAs ?_|with_reducible refine qAm ?_ (by omega)|with_reducible refine qAX ?_ HR4.out qM|with_reducible exact HRW.out))) (by omega) rfl (qAq ⟨qAk (by omega) (by omega),qAk (by omega) (by omega)⟩ (A64.nil)) rfl (by omega)
 · exact zv
theorem qIp (A0 A1 A2 A3 A4 P0 P1 P2 D:Option Addr) (n0 n1 n2 n3 n4 d0 d1 d2 d3 d4 ua ul uc c0 c1 c2 k g:Nat) (x:Mod) (f:Fn) (ts:List Typ) (ia ib:Int) (w:World) (H:Cx w A0 A1 A2 A3 A4 P0 P1 P2 D n0 n1 n2 n3 n4 d0 d1 d2 d3 d4 ua ul uc c0 c1 c2 k g x f ts) (hia:I64 ia):Calls Tryz.prog 117 #[.agg #[.slice A0 n0 d0,.slice A1 n1 d1,.slice A2 n2 d2,.slice A3 n3 d3,.slice A4 n4 d4],.agg #[.slice P0 ua c0,.int .i64 f.ret.1,.int .i64 f.ret.2,.slice P1 ul c1,.slice P2 uc c2],.agg #[.int .i64 26,.int .i64 ia,.int .i64 ib],.slice D k g] w (Chgs w.heap.size [f.ret] [] w):=by
 have HH:=qAU H
 have TK:=qAU qAx
 have PU:=qAU qA2
 have PL1:=qAU (fun w=>qAp 1 w)
 clear H
 go_enter Tryz.func117,Tryz.ntmps117
 go_upto_region 2 with(first
  |(go_at_call 145;(with_reducible refine(PL1.out _).mono ?_);rintro e w1 ⟨rfl,hb1⟩;have HR1:=qAU hb1;have hs1:=hb1.size;simp at hs1;clear hb1))
 refine qAj fun W hW=> ?_
 have HBW:Hid (Below w.heap.size w W):=by show Below _ _ _;rw[hW];exact(((((qAe w _).alloc (by simp) _).alloc qE _).alloc qE _).trans (HR1.out.mono qE)).alloc (by omega) _
 have HM:Hid (Blk W w.heap.size 28 #[.slice A0 n0 d0,.slice A1 n1 d1,.slice A2 n2 d2,.slice A3 n3 d3,.slice A4 n4 d4]):=by show Blk _ _ _ _;rw[hW];exact qAV (qAX (qAV (qAV (qAV (qAt w _ _)))) HR1.out qE)
 have HF:Hid (Blk W (w.heap.size+1) 61 #[.slice P0 ua c0,.int .i64 f.ret.1,.int .i64 f.ret.2,.slice P1 ul c1,.slice P2 uc c2]):=by show Blk _ _ _ _;rw[hW];exact qAV (qAX (qAV (qAV (qAh (by simp)))) HR1.out qE)
 have HI:Hid (Blk W (w.heap.size+2) 65 #[.int .i64 26,.int .i64 ia,.int .i64 ib]):=by show Blk _ _ _ _;rw[hW];exact qAV (qAX (qAV (qAh (by simp))) HR1.out qE)
 have HRW:Hid (Blk W (w.heap.size+3) 161 #[.slice none 0 0,.slice none 0 0]):=by show Blk _ _ _ _;rw[hW];exact qAV (qAX (qAh (by simp)) HR1.out qE)
 have HG:Hid (Blk W w1.heap.size 58 #[.int .i64 1,.int .i64 0]):=by show Blk _ _ _ _;rw[hW];exact qAh rfl
 have hg1:w.heap.size+4≤w1.heap.size:=by omega
 have hsW:w1.heap.size+1≤W.heap.size:=by rw[hW];simp
 have hop:=HI.out.cell 0
 simp only[List.getElem?_toArray,List.getElem?_cons_zero] at hop
 clear hW
 have HL:Hid (∀w':World,(∀b,b<W.heap.size→b≠(w.heap.size+3)→w'.heap[b]? =W.heap[b]?)→w'.cell? ⟨w.heap.size+1,1,none⟩=some (.int .i64 f.ret.1)∧w'.cell? ⟨w.heap.size+1,2,none⟩=some (.int .i64 f.ret.2)):=fun w' hk=>⟨(qAW (hk _ zy qu)).trans (HF.out.cell 1),(qAW (hk _ zy qu)).trans (HF.out.cell 2)⟩
 have HC:Hid (∀w',Below W.heap.size W w'→w'.cell? ⟨w.heap.size+1,1,none⟩=some (.int .i64 f.ret.1)∧w'.cell? ⟨w.heap.size+1,2,none⟩=some (.int .i64 f.ret.2)):=fun w' hb=>HL.out w' fun b h1 _=>hb.block b h1
 have HCs:Hid (∀w' u v,Below W.heap.size W w'→((w'.setCell ⟨(w.heap.size+3),0,none⟩ u).setCell ⟨(w.heap.size+3),1,none⟩ v).cell? ⟨w.heap.size+1,1,none⟩=some (.int .i64 f.ret.1)∧((w'.setCell ⟨(w.heap.size+3),0,none⟩ u).setCell ⟨(w.heap.size+3),1,none⟩ v).cell? ⟨w.heap.size+1,2,none⟩=some (.int .i64 f.ret.2)):=fun w' u v hb=>HL.out _ fun b h1 h2=>((qAd _ ⟨(w.heap.size+3),1,none⟩ v b h2).trans (qAd _ ⟨(w.heap.size+3),0,none⟩ u b h2)).trans (hb.block b h1)
 have SW:=qAU (HC.out W (qAb _ _))
 obtain⟨z0,z1⟩:=SW.out
 go_wp2_with (first
  |(go_at_call 146
    with_reducible refine(TK.out _ _ _ _).mono ?_
    rintro e w4 ⟨rfl,hb4⟩
    have HB4:Hid (Below W.heap.size W w4):=qB
    have HR4:=qAU hb4
    have hs4:=hb4.size
    try simp at hs4
    have HBk4:Hid (Blk w4 (w.heap.size+3) 161 #[.slice none 0 0,.slice none 0 0]):=qAX HRW.out HB4.out (by omega)
    have hra4:=HBk4.out.cell 0
    have hrb4:=HBk4.out.cell 1
    have hfa4:=HBk4.out.frozen 0
    have hfb4:=HBk4.out.frozen 1
    have SS4:=qAU (HC.out _ HB4.out)
    clear hb4))
 refine bodyPost_ret (qA5 rfl _ _ rfl (qBD hra4) (qBC hrb4)) rfl ⟨qAu (HBW.out.trans (HB4.out.mono HBW.out.size)) (by omega),_,_,_,_,_,_,rfl,?_,?_⟩
 · exact qBG (cs:= #[.int .i64 f.ret.1,.int .i64 f.ret.2]) (ts:=[f.ret]) (by(repeat(first|((with_reducible refine qAh ?_);simp;done)|with_reducible refine qAV ?_|with_reducible refine qAs ?_|with_reducible refine qAm ?_ (by omega)|with_reducible refine qAX ?_ HR4.out qM|with_reducible exact HRW.out))) (by omega) rfl (qAq HH.out.rt (A64.nil)) rfl (by omega)
 · exact qBN _ _ _
end Go.Proofs.YtconajaecpgjgaaGreat
