/-
Fac
-/
import Derived.Test.YtconajaecpgjgaaGreatT16
import Derived.Deep.RegionHeld3
set_option linter.unusedSimpArgs false
set_option linter.unusedVariables false
set_option maxRecDepth 100000
set_option maxHeartbeats 4000000
namespace Go.Proofs.YtconajaecpgjgaaGreat
open Go.RowKit
theorem qJY (K:Nat) (w:World):Calls Tryz.prog 151 #[.int .i64 31] w (Chgs K [(1,0)] [(3,0)] w):=by
 have P1:=qAZ (fun w=>qAw 1 w)
 have P2:=qAZ (fun w=>qAw 3 w)
 have P3:=qAZ (fun w=>qAw 2 w)
 have TK:=qAZ qA2
 have PU:=qAZ qA6
 go_enter Tryz.func151,Tryz.ntmps151
 go_wp2_with (first
  |(go_at_call 145;(with_reducible refine(P1.out _).mono ?_);rintro e w1 ⟨rfl,hb1⟩;have HR1:=qAZ hb1;have hs1:=hb1.size;simp at hs1;clear hb1)
  |(go_at_call 145;(with_reducible refine(P2.out _).mono ?_);rintro e w2 ⟨rfl,hb2⟩;have HR2:=qAZ hb2;have hs2:=hb2.size;clear hb2)
  |(go_at_call 145;(with_reducible refine(P3.out _).mono ?_);rintro e w3 ⟨rfl,hb3⟩;have HR3:=qAZ hb3;have hs3:=hb3.size;clear hb3))
 refine qAp fun W hW=> ?_
 have HB3:Hid (Below w.heap.size w w3):=(((qAj w _).trans (HR1.out.mono (by simp))).trans (HR2.out.mono (by omega))).trans (HR3.out.mono (by omega))
 have HBW:Hid (Below w.heap.size w W):=by show Below _ _ _;rw[hW];exact((HB3.out.alloc HB3.out.size _).alloc qG _).alloc qG _
 have HRW:Hid (Blk W w.heap.size 161 #[.slice none 0 0,.slice none 0 0]):=by show Blk _ _ _ _;rw[hW];exact qAd (qAd (qAd (qAc (qAc (qAc (qAz w _ _) HR1.out (by simp)) HR2.out (by omega)) HR3.out (by omega))))
 have HN:Hid (Blk W w3.heap.size 58 #[.int .i64 1,.int .i64 0]∧Blk W (w3.heap.size+1) 58 #[.int .i64 3,.int .i64 0]∧Blk W (w3.heap.size+2) 58 #[.int .i64 2,.int .i64 0]):=by
  show _∧_
  rw[hW]
  exact⟨qAd (qAd (qAm rfl)),qAd (qAm (by simp)),qAm (by simp)⟩
 have hg:w.heap.size<w3.heap.size:=by omega
 have hgW:w3.heap.size+3≤W.heap.size:=by rw[hW];simp
 clear hW
 have HC:Hid (∀w',Below W.heap.size W w'→w'.cell? ⟨w3.heap.size,0,none⟩=some (.int .i64 1)∧w'.cell? ⟨w3.heap.size,1,none⟩=some (.int .i64 0)∧w'.cell? ⟨w3.heap.size+1,0,none⟩=some (.int .i64 3)∧w'.cell? ⟨w3.heap.size+1,1,none⟩=some (.int .i64 0)∧w'.cell? ⟨w3.heap.size+2,0,none⟩=some (.int .i64 2)∧w'.cell? ⟨w3.heap.size+2,1,none⟩=some (.int .i64 0)):=fun w' hb=>
  ⟨(qAc HN.out.1 hb (by omega)).cell 0,(qAc HN.out.1 hb (by omega)).cell 1,(qAc HN.out.2.1 hb (by omega)).cell 0,(qAc HN.out.2.1 hb (by omega)).cell 1,(qAc HN.out.2.2 hb (by omega)).cell 0,(qAc HN.out.2.2 hb (by omega)).cell 1⟩
 have SW:=qAZ (HC.out W (qAe _ _))
 have HCs:Hid (∀w' u v,Below W.heap.size W w'→((w'.setCell ⟨w.heap.size,0,none⟩ u).setCell ⟨w.heap.size,1,none⟩ v).cell? ⟨w3.heap.size,0,none⟩=some (.int .i64 1)∧((w'.setCell ⟨w.heap.size,0,none⟩ u).setCell ⟨w.heap.size,1,none⟩ v).cell? ⟨w3.heap.size,1,none⟩=some (.int .i64 0)∧((w'.setCell ⟨w.heap.size,0,none⟩ u).setCell ⟨w.heap.size,1,none⟩ v).cell? ⟨w3.heap.size+1,0,none⟩=some (.int .i64 3)∧((w'.setCell ⟨w.heap.size,0,none⟩ u).setCell ⟨w.heap.size,1,none⟩ v).cell? ⟨w3.heap.size+1,1,none⟩=some (.int .i64 0)∧((w'.setCell ⟨w.heap.size,0,none⟩ u).setCell ⟨w.heap.size,1,none⟩ v).cell? ⟨w3.heap.size+2,0,none⟩=some (.int .i64 2)∧((w'.setCell ⟨w.heap.size,0,none⟩ u).setCell ⟨w.heap.size,1,none⟩ v).cell? ⟨w3.heap.size+2,1,none⟩=some (.int .i64 0)):=fun w' u v hb=>
  ⟨(qAq (qAq (qAc HN.out.1 hb (by omega)) (by omega)) (by omega)).cell 0,(qAq (qAq (qAc HN.out.1 hb (by omega)) (by omega)) (by omega)).cell 1,(qAq (qAq (qAc HN.out.2.1 hb (by omega)) (by omega)) (by omega)).cell 0,(qAq (qAq (qAc HN.out.2.1 hb (by omega)) (by omega)) (by omega)).cell 1,(qAq (qAq (qAc HN.out.2.2 hb (by omega)) (by omega)) (by omega)).cell 0,(qAq (qAq (qAc HN.out.2.2 hb (by omega)) (by omega)) (by omega)).cell 1⟩
 go_wp2_with fail
 go_region_held3 (fun w'=>w'.cell? ⟨w3.heap.size,0,none⟩=some (.int .i64 1)∧w'.cell? ⟨w3.heap.size,1,none⟩=some (.int .i64 0)∧w'.cell? ⟨w3.heap.size+1,0,none⟩=some (.int .i64 3)∧w'.cell? ⟨w3.heap.size+1,1,none⟩=some (.int .i64 0)∧w'.cell? ⟨w3.heap.size+2,0,none⟩=some (.int .i64 2)∧w'.cell? ⟨w3.heap.size+2,1,none⟩=some (.int .i64 0))
  (first|exact SS5.out|exact SS4.out|(have hz:=HB5.out;clear hz;first|exact HC.out _ (HB5.out.alloc HB5.out.size _)|exact HC.out _ ((HB5.out.alloc HB5.out.size _).alloc qw _))|(have hz:=HB4.out;clear hz;first|exact HC.out _ (HB4.out.alloc HB4.out.size _)|exact HC.out _ ((HB4.out.alloc HB4.out.size _).alloc jC _))|(have hz:=HB5.out;clear hz;exact HCs.out _ _ _ HB5.out)|(have hz:=HB4.out;clear hz;exact HCs.out _ _ _ HB4.out)|exact SW.out|exact HC.out _ (qAe _ W).drew|exact HC.out _ (qAj W _).drew|exact HC.out _ ((qAj W _).alloc (by simp) _).drew)
  (first
    |(go_at_call 146
      with_reducible refine(TK.out _ _ _ _).mono ?_
      rintro e w4 ⟨rfl,hb4⟩
      have HB4:Hid (Below W.heap.size W w4):=qB
      have HR4:=qAZ hb4
      have hs4:=hb4.size
      try simp at hs4
      have HBk4:Hid (Blk w4 w.heap.size 161 #[.slice none 0 0,.slice none 0 0]):=qAc HRW.out HB4.out (by omega)
      have hra4:=HBk4.out.cell 0
      have hrb4:=HBk4.out.cell 1
      have hfa4:=HBk4.out.frozen 0
      have hfb4:=HBk4.out.frozen 1
      have SS4:=qAZ (HC.out _ HB4.out)
      clear hb4)
    |(go_at_call 147
      with_reducible refine(PU.out _ _ _ _ _ _ _).mono ?_
      rintro e w5 ⟨rfl,hb5⟩
      have HB5:Hid (Below W.heap.size W w5):=qH
      have HR5:=qAZ hb5
      have hs5:=hb5.size
      try simp at hs5
      have HBk5:Hid (Blk w5 w.heap.size 161 #[.slice none 0 0,.slice none 0 0]):=qAc HRW.out HB5.out (by omega)
      have hra5:=HBk5.out.cell 0
      have hrb5:=HBk5.out.cell 1
      have hfa5:=HBk5.out.frozen 0
      have hfb5:=HBk5.out.frozen 1
      have SS5:=qAZ (HC.out _ HB5.out)
      clear hb5))
 all_goals
  go_wp2_with fail
  refine bodyPost_ret (qBB rfl _ _ rfl (qBH hra5) (qBG hrb5)) rfl ⟨qA0 (HBW.out.trans (HB5.out.mono HBW.out.size)) (by omega),_,_,_,_,_,_,rfl,?_,?_⟩
  · exact qN
  · exact zJ
theorem qJX (K:Nat) (w:World):Calls Tryz.prog 151 #[.int .i64 32] w (Chgs K [(3,0),(1,0)] [(1,0)] w):=by
 have P1:=qAZ (fun w=>qAw 1 w)
 have P2:=qAZ (fun w=>qAw 3 w)
 have P3:=qAZ (fun w=>qAw 2 w)
 have TK:=qAZ qA2
 have PU:=qAZ qA6
 go_enter Tryz.func151,Tryz.ntmps151
 go_wp2_with (first
  |(go_at_call 145;(with_reducible refine(P1.out _).mono ?_);rintro e w1 ⟨rfl,hb1⟩;have HR1:=qAZ hb1;have hs1:=hb1.size;simp at hs1;clear hb1)
  |(go_at_call 145;(with_reducible refine(P2.out _).mono ?_);rintro e w2 ⟨rfl,hb2⟩;have HR2:=qAZ hb2;have hs2:=hb2.size;clear hb2)
  |(go_at_call 145;(with_reducible refine(P3.out _).mono ?_);rintro e w3 ⟨rfl,hb3⟩;have HR3:=qAZ hb3;have hs3:=hb3.size;clear hb3))
 refine qAp fun W hW=> ?_
 have HB3:Hid (Below w.heap.size w w3):=(((qAj w _).trans (HR1.out.mono (by simp))).trans (HR2.out.mono (by omega))).trans (HR3.out.mono (by omega))
 have HBW:Hid (Below w.heap.size w W):=by show Below _ _ _;rw[hW];exact((HB3.out.alloc HB3.out.size _).alloc qG _).alloc qG _
 have HRW:Hid (Blk W w.heap.size 161 #[.slice none 0 0,.slice none 0 0]):=by show Blk _ _ _ _;rw[hW];exact qAd (qAd (qAd (qAc (qAc (qAc (qAz w _ _) HR1.out (by simp)) HR2.out (by omega)) HR3.out (by omega))))
 have HN:Hid (Blk W w3.heap.size 58 #[.int .i64 1,.int .i64 0]∧Blk W (w3.heap.size+1) 58 #[.int .i64 3,.int .i64 0]∧Blk W (w3.heap.size+2) 58 #[.int .i64 2,.int .i64 0]):=by
  show _∧_
  rw[hW]
  exact⟨qAd (qAd (qAm rfl)),qAd (qAm (by simp)),qAm (by simp)⟩
 have hg:w.heap.size<w3.heap.size:=by omega
 have hgW:w3.heap.size+3≤W.heap.size:=by rw[hW];simp
 clear hW
 have HC:Hid (∀w',Below W.heap.size W w'→w'.cell? ⟨w3.heap.size,0,none⟩=some (.int .i64 1)∧w'.cell? ⟨w3.heap.size,1,none⟩=some (.int .i64 0)∧w'.cell? ⟨w3.heap.size+1,0,none⟩=some (.int .i64 3)∧w'.cell? ⟨w3.heap.size+1,1,none⟩=some (.int .i64 0)∧w'.cell? ⟨w3.heap.size+2,0,none⟩=some (.int .i64 2)∧w'.cell? ⟨w3.heap.size+2,1,none⟩=some (.int .i64 0)):=fun w' hb=>
  ⟨(qAc HN.out.1 hb (by omega)).cell 0,(qAc HN.out.1 hb (by omega)).cell 1,(qAc HN.out.2.1 hb (by omega)).cell 0,(qAc HN.out.2.1 hb (by omega)).cell 1,(qAc HN.out.2.2 hb (by omega)).cell 0,(qAc HN.out.2.2 hb (by omega)).cell 1⟩
 have SW:=qAZ (HC.out W (qAe _ _))
 have HCs:Hid (∀w' u v,Below W.heap.size W w'→((w'.setCell ⟨w.heap.size,0,none⟩ u).setCell ⟨w.heap.size,1,none⟩ v).cell? ⟨w3.heap.size,0,none⟩=some (.int .i64 1)∧((w'.setCell ⟨w.heap.size,0,none⟩ u).setCell ⟨w.heap.size,1,none⟩ v).cell? ⟨w3.heap.size,1,none⟩=some (.int .i64 0)∧((w'.setCell ⟨w.heap.size,0,none⟩ u).setCell ⟨w.heap.size,1,none⟩ v).cell? ⟨w3.heap.size+1,0,none⟩=some (.int .i64 3)∧((w'.setCell ⟨w.heap.size,0,none⟩ u).setCell ⟨w.heap.size,1,none⟩ v).cell? ⟨w3.heap.size+1,1,none⟩=some (.int .i64 0)∧((w'.setCell ⟨w.heap.size,0,none⟩ u).setCell ⟨w.heap.size,1,none⟩ v).cell? ⟨w3.heap.size+2,0,none⟩=some (.int .i64 2)∧((w'.setCell ⟨w.heap.size,0,none⟩ u).setCell ⟨w.heap.size,1,none⟩ v).cell? ⟨w3.heap.size+2,1,none⟩=some (.int .i64 0)):=fun w' u v hb=>
  ⟨(qAq (qAq (qAc HN.out.1 hb (by omega)) (by omega)) (by omega)).cell 0,(qAq (qAq (qAc HN.out.1 hb (by omega)) (by omega)) (by omega)).cell 1,(qAq (qAq (qAc HN.out.2.1 hb (by omega)) (by omega)) (by omega)).cell 0,(qAq (qAq (qAc HN.out.2.1 hb (by omega)) (by omega)) (by omega)).cell 1,(qAq (qAq (qAc HN.out.2.2 hb (by omega)) (by omega)) (by omega)).cell 0,(qAq (qAq (qAc HN.out.2.2 hb (by omega)) (by omega)) (by omega)).cell 1⟩
 go_wp2_with fail
 go_region_held3 (fun w'=>w'.cell? ⟨w3.heap.size,0,none⟩=some (.int .i64 1)∧w'.cell? ⟨w3.heap.size,1,none⟩=some (.int .i64 0)∧w'.cell? ⟨w3.heap.size+1,0,none⟩=some (.int .i64 3)∧w'.cell? ⟨w3.heap.size+1,1,none⟩=some (.int .i64 0)∧w'.cell? ⟨w3.heap.size+2,0,none⟩=some (.int .i64 2)∧w'.cell? ⟨w3.heap.size+2,1,none⟩=some (.int .i64 0))
  (first|exact SS5.out|exact SS4.out|(have hz:=HB5.out;clear hz;first|exact HC.out _ (HB5.out.alloc HB5.out.size _)|exact HC.out _ ((HB5.out.alloc HB5.out.size _).alloc qw _))|(have hz:=HB4.out;clear hz;first|exact HC.out _ (HB4.out.alloc HB4.out.size _)|exact HC.out _ ((HB4.out.alloc HB4.out.size _).alloc jC _))|(have hz:=HB5.out;clear hz;exact HCs.out _ _ _ HB5.out)|(have hz:=HB4.out;clear hz;exact HCs.out _ _ _ HB4.out)|exact SW.out|exact HC.out _ (qAe _ W).drew|exact HC.out _ (qAj W _).drew|exact HC.out _ ((qAj W _).alloc (by simp) _).drew)
  (first
    |(go_at_call 146
      with_reducible refine(TK.out _ _ _ _).mono ?_
      rintro e w4 ⟨rfl,hb4⟩
      have HB4:Hid (Below W.heap.size W w4):=qB
      have HR4:=qAZ hb4
      have hs4:=hb4.size
      try simp at hs4
      have HBk4:Hid (Blk w4 w.heap.size 161 #[.slice none 0 0,.slice none 0 0]):=qAc HRW.out HB4.out (by omega)
      have hra4:=HBk4.out.cell 0
      have hrb4:=HBk4.out.cell 1
      have hfa4:=HBk4.out.frozen 0
      have hfb4:=HBk4.out.frozen 1
      have SS4:=qAZ (HC.out _ HB4.out)
      clear hb4)
    |(go_at_call 147
      with_reducible refine(PU.out _ _ _ _ _ _ _).mono ?_
      rintro e w5 ⟨rfl,hb5⟩
      have HB5:Hid (Below W.heap.size W w5):=qH
      have HR5:=qAZ hb5
      have hs5:=hb5.size
      try simp at hs5
      have HBk5:Hid (Blk w5 w.heap.size 161 #[.slice none 0 0,.slice none 0 0]):=qAc HRW.out HB5.out (by omega)
      have hra5:=HBk5.out.cell 0
      have hrb5:=HBk5.out.cell 1
      have hfa5:=HBk5.out.frozen 0
      have hfb5:=HBk5.out.frozen 1
      have SS5:=qAZ (HC.out _ HB5.out)
      clear hb5))
 all_goals
  go_wp2_with fail
  refine bodyPost_ret (qBB rfl _ _ rfl (qBH hra5) (qBG hrb5)) rfl ⟨qA0 (HBW.out.trans (HB5.out.mono HBW.out.size)) (by omega),_,_,_,_,_,_,rfl,?_,?_⟩
  · exact qBK (cs:= #[.int .i64 3,.int .i64 0,.int .i64 1,.int .i64 0]) (ts:=[(3,0),(1,0)]) (by(repeat(first|((with_reducible refine qAm ?_);simp;done)|with_reducible refine qAd ?_|with_reducible refine qAy ?_|with_reducible refine qAq ?_ (by omega)|with_reducible refine qAc ?_ HR5.out qK|with_reducible refine qAc ?_ HR4.out qK|with_reducible exact HRW.out))) (by omega) rfl (qBg (by omega) (qBg (by omega) (A64.nil))) rfl (by omega)
  · exact qN
theorem qJW (K:Nat) (w:World):Calls Tryz.prog 151 #[.int .i64 33] w (Chgs K [(3,0),(1,0),(1,0)] [] w):=by
 have P1:=qAZ (fun w=>qAw 1 w)
 have P2:=qAZ (fun w=>qAw 3 w)
 have P3:=qAZ (fun w=>qAw 2 w)
 have TK:=qAZ qA2
 have PU:=qAZ qA6
 go_enter Tryz.func151,Tryz.ntmps151
 go_upto_region 2 with(first
  |(go_at_call 145;(with_reducible refine(P1.out _).mono ?_);rintro e w1 ⟨rfl,hb1⟩;have HR1:=qAZ hb1;have hs1:=hb1.size;simp at hs1;clear hb1)
  |(go_at_call 145;(with_reducible refine(P2.out _).mono ?_);rintro e w2 ⟨rfl,hb2⟩;have HR2:=qAZ hb2;have hs2:=hb2.size;clear hb2)
  |(go_at_call 145;(with_reducible refine(P3.out _).mono ?_);rintro e w3 ⟨rfl,hb3⟩;have HR3:=qAZ hb3;have hs3:=hb3.size;clear hb3))
 refine qAp fun W hW=> ?_
 have HB3:Hid (Below w.heap.size w w3):=(((qAj w _).trans (HR1.out.mono (by simp))).trans (HR2.out.mono (by omega))).trans (HR3.out.mono (by omega))
 have HBW:Hid (Below w.heap.size w W):=by show Below _ _ _;rw[hW];exact((HB3.out.alloc HB3.out.size _).alloc qG _).alloc qG _
 have HRW:Hid (Blk W w.heap.size 161 #[.slice none 0 0,.slice none 0 0]):=by show Blk _ _ _ _;rw[hW];exact qAd (qAd (qAd (qAc (qAc (qAc (qAz w _ _) HR1.out (by simp)) HR2.out (by omega)) HR3.out (by omega))))
 have HN:Hid (Blk W w3.heap.size 58 #[.int .i64 1,.int .i64 0]∧Blk W (w3.heap.size+1) 58 #[.int .i64 3,.int .i64 0]∧Blk W (w3.heap.size+2) 58 #[.int .i64 2,.int .i64 0]):=by
  show _∧_
  rw[hW]
  exact⟨qAd (qAd (qAm rfl)),qAd (qAm (by simp)),qAm (by simp)⟩
 have hg:w.heap.size<w3.heap.size:=by omega
 have hgW:w3.heap.size+3≤W.heap.size:=by rw[hW];simp
 clear hW
 have HC:Hid (∀w',Below W.heap.size W w'→w'.cell? ⟨w3.heap.size,0,none⟩=some (.int .i64 1)∧w'.cell? ⟨w3.heap.size,1,none⟩=some (.int .i64 0)∧w'.cell? ⟨w3.heap.size+1,0,none⟩=some (.int .i64 3)∧w'.cell? ⟨w3.heap.size+1,1,none⟩=some (.int .i64 0)∧w'.cell? ⟨w3.heap.size+2,0,none⟩=some (.int .i64 2)∧w'.cell? ⟨w3.heap.size+2,1,none⟩=some (.int .i64 0)):=fun w' hb=>
  ⟨(qAc HN.out.1 hb (by omega)).cell 0,(qAc HN.out.1 hb (by omega)).cell 1,(qAc HN.out.2.1 hb (by omega)).cell 0,(qAc HN.out.2.1 hb (by omega)).cell 1,(qAc HN.out.2.2 hb (by omega)).cell 0,(qAc HN.out.2.2 hb (by omega)).cell 1⟩
 obtain⟨x0,x1,x2,x3,x4,x5⟩:=HC.out W (qAe _ _)
 go_wp2_with (first
  |(go_at_call 146
    with_reducible refine(TK.out _ _ _ _).mono ?_
    rintro e w4 ⟨rfl,hb4⟩
    have HB4:Hid (Below W.heap.size W w4):=qB
    have HR4:=qAZ hb4
    have hs4:=hb4.size
    try simp at hs4
    have HBk4:Hid (Blk w4 w.heap.size 161 #[.slice none 0 0,.slice none 0 0]):=qAc HRW.out HB4.out (by omega)
    have hra4:=HBk4.out.cell 0
    have hrb4:=HBk4.out.cell 1
    have hfa4:=HBk4.out.frozen 0
    have hfb4:=HBk4.out.frozen 1
    clear hb4))
 refine bodyPost_ret (qBB rfl _ _ rfl (qBH hra4) (qBG hrb4)) rfl ⟨qA0 (HBW.out.trans (HB4.out.mono HBW.out.size)) (by omega),_,_,_,_,_,_,rfl,?_,?_⟩
 · exact qBK (cs:= #[.int .i64 3,.int .i64 0,.int .i64 1,.int .i64 0,.int .i64 1,.int .i64 0]) (ts:=[(3,0),(1,0),(1,0)]) (by(repeat(first|((with_reducible refine qAm ?_);simp;done)|with_reducible refine qAd ?_|with_reducible refine qAy ?_|with_reducible refine qAq ?_ (by omega)|with_reducible refine qAc ?_ HR4.out qK|with_reducible exact HRW.out))) (by omega) rfl (qBg (by omega) (qBg (by omega) (qBg (by omega) (A64.nil)))) rfl (by omega)
 · exact zp
theorem qJV (K:Nat) (w:World):Calls Tryz.prog 151 #[.int .i64 34] w (Chgs K [(3,0)] [(1,0)] w):=by
 have P1:=qAZ (fun w=>qAw 1 w)
 have P2:=qAZ (fun w=>qAw 3 w)
 have P3:=qAZ (fun w=>qAw 2 w)
 have TK:=qAZ qA2
 have PU:=qAZ qA6
 go_enter Tryz.func151,Tryz.ntmps151
 go_wp2_with (first
  |(go_at_call 145;(with_reducible refine(P1.out _).mono ?_);rintro e w1 ⟨rfl,hb1⟩;have HR1:=qAZ hb1;have hs1:=hb1.size;simp at hs1;clear hb1)
  |(go_at_call 145;(with_reducible refine(P2.out _).mono ?_);rintro e w2 ⟨rfl,hb2⟩;have HR2:=qAZ hb2;have hs2:=hb2.size;clear hb2)
  |(go_at_call 145;(with_reducible refine(P3.out _).mono ?_);rintro e w3 ⟨rfl,hb3⟩;have HR3:=qAZ hb3;have hs3:=hb3.size;clear hb3))
 refine qAp fun W hW=> ?_
 have HB3:Hid (Below w.heap.size w w3):=(((qAj w _).trans (HR1.out.mono (by simp))).trans (HR2.out.mono (by omega))).trans (HR3.out.mono (by omega))
 have HBW:Hid (Below w.heap.size w W):=by show Below _ _ _;rw[hW];exact((HB3.out.alloc HB3.out.size _).alloc qG _).alloc qG _
 have HRW:Hid (Blk W w.heap.size 161 #[.slice none 0 0,.slice none 0 0]):=by show Blk _ _ _ _;rw[hW];exact qAd (qAd (qAd (qAc (qAc (qAc (qAz w _ _) HR1.out (by simp)) HR2.out (by omega)) HR3.out (by omega))))
 have HN:Hid (Blk W w3.heap.size 58 #[.int .i64 1,.int .i64 0]∧Blk W (w3.heap.size+1) 58 #[.int .i64 3,.int .i64 0]∧Blk W (w3.heap.size+2) 58 #[.int .i64 2,.int .i64 0]):=by
  show _∧_
  rw[hW]
  exact⟨qAd (qAd (qAm rfl)),qAd (qAm (by simp)),qAm (by simp)⟩
 have hg:w.heap.size<w3.heap.size:=by omega
 have hgW:w3.heap.size+3≤W.heap.size:=by rw[hW];simp
 clear hW
 have HC:Hid (∀w',Below W.heap.size W w'→w'.cell? ⟨w3.heap.size,0,none⟩=some (.int .i64 1)∧w'.cell? ⟨w3.heap.size,1,none⟩=some (.int .i64 0)∧w'.cell? ⟨w3.heap.size+1,0,none⟩=some (.int .i64 3)∧w'.cell? ⟨w3.heap.size+1,1,none⟩=some (.int .i64 0)∧w'.cell? ⟨w3.heap.size+2,0,none⟩=some (.int .i64 2)∧w'.cell? ⟨w3.heap.size+2,1,none⟩=some (.int .i64 0)):=fun w' hb=>
  ⟨(qAc HN.out.1 hb (by omega)).cell 0,(qAc HN.out.1 hb (by omega)).cell 1,(qAc HN.out.2.1 hb (by omega)).cell 0,(qAc HN.out.2.1 hb (by omega)).cell 1,(qAc HN.out.2.2 hb (by omega)).cell 0,(qAc HN.out.2.2 hb (by omega)).cell 1⟩
 have SW:=qAZ (HC.out W (qAe _ _))
 have HCs:Hid (∀w' u v,Below W.heap.size W w'→((w'.setCell ⟨w.heap.size,0,none⟩ u).setCell ⟨w.heap.size,1,none⟩ v).cell? ⟨w3.heap.size,0,none⟩=some (.int .i64 1)∧((w'.setCell ⟨w.heap.size,0,none⟩ u).setCell ⟨w.heap.size,1,none⟩ v).cell? ⟨w3.heap.size,1,none⟩=some (.int .i64 0)∧((w'.setCell ⟨w.heap.size,0,none⟩ u).setCell ⟨w.heap.size,1,none⟩ v).cell? ⟨w3.heap.size+1,0,none⟩=some (.int .i64 3)∧((w'.setCell ⟨w.heap.size,0,none⟩ u).setCell ⟨w.heap.size,1,none⟩ v).cell? ⟨w3.heap.size+1,1,none⟩=some (.int .i64 0)∧((w'.setCell ⟨w.heap.size,0,none⟩ u).setCell ⟨w.heap.size,1,none⟩ v).cell? ⟨w3.heap.size+2,0,none⟩=some (.int .i64 2)∧((w'.setCell ⟨w.heap.size,0,none⟩ u).setCell ⟨w.heap.size,1,none⟩ v).cell? ⟨w3.heap.size+2,1,none⟩=some (.int .i64 0)):=fun w' u v hb=>
  ⟨(qAq (qAq (qAc HN.out.1 hb (by omega)) (by omega)) (by omega)).cell 0,(qAq (qAq (qAc HN.out.1 hb (by omega)) (by omega)) (by omega)).cell 1,(qAq (qAq (qAc HN.out.2.1 hb (by omega)) (by omega)) (by omega)).cell 0,(qAq (qAq (qAc HN.out.2.1 hb (by omega)) (by omega)) (by omega)).cell 1,(qAq (qAq (qAc HN.out.2.2 hb (by omega)) (by omega)) (by omega)).cell 0,(qAq (qAq (qAc HN.out.2.2 hb (by omega)) (by omega)) (by omega)).cell 1⟩
 go_wp2_with fail
 go_region_held3 (fun w'=>w'.cell? ⟨w3.heap.size,0,none⟩=some (.int .i64 1)∧w'.cell? ⟨w3.heap.size,1,none⟩=some (.int .i64 0)∧w'.cell? ⟨w3.heap.size+1,0,none⟩=some (.int .i64 3)∧w'.cell? ⟨w3.heap.size+1,1,none⟩=some (.int .i64 0)∧w'.cell? ⟨w3.heap.size+2,0,none⟩=some (.int .i64 2)∧w'.cell? ⟨w3.heap.size+2,1,none⟩=some (.int .i64 0))
  (first|exact SS5.out|exact SS4.out|(have hz:=HB5.out;clear hz;first|exact HC.out _ (HB5.out.alloc HB5.out.size _)|exact HC.out _ ((HB5.out.alloc HB5.out.size _).alloc qw _))|(have hz:=HB4.out;clear hz;first|exact HC.out _ (HB4.out.alloc HB4.out.size _)|exact HC.out _ ((HB4.out.alloc HB4.out.size _).alloc jC _))|(have hz:=HB5.out;clear hz;exact HCs.out _ _ _ HB5.out)|(have hz:=HB4.out;clear hz;exact HCs.out _ _ _ HB4.out)|exact SW.out|exact HC.out _ (qAe _ W).drew|exact HC.out _ (qAj W _).drew|exact HC.out _ ((qAj W _).alloc (by simp) _).drew)
  (first
    |(go_at_call 146
      with_reducible refine(TK.out _ _ _ _).mono ?_
      rintro e w4 ⟨rfl,hb4⟩
      have HB4:Hid (Below W.heap.size W w4):=qB
      have HR4:=qAZ hb4
      have hs4:=hb4.size
      try simp at hs4
      have HBk4:Hid (Blk w4 w.heap.size 161 #[.slice none 0 0,.slice none 0 0]):=qAc HRW.out HB4.out (by omega)
      have hra4:=HBk4.out.cell 0
      have hrb4:=HBk4.out.cell 1
      have hfa4:=HBk4.out.frozen 0
      have hfb4:=HBk4.out.frozen 1
      have SS4:=qAZ (HC.out _ HB4.out)
      clear hb4)
    |(go_at_call 147
      with_reducible refine(PU.out _ _ _ _ _ _ _).mono ?_
      rintro e w5 ⟨rfl,hb5⟩
      have HB5:Hid (Below W.heap.size W w5):=qH
      have HR5:=qAZ hb5
      have hs5:=hb5.size
      try simp at hs5
      have HBk5:Hid (Blk w5 w.heap.size 161 #[.slice none 0 0,.slice none 0 0]):=qAc HRW.out HB5.out (by omega)
      have hra5:=HBk5.out.cell 0
      have hrb5:=HBk5.out.cell 1
      have hfa5:=HBk5.out.frozen 0
      have hfb5:=HBk5.out.frozen 1
      have SS5:=qAZ (HC.out _ HB5.out)
      clear hb5))
 all_goals
  go_wp2_with fail
  refine bodyPost_ret (qBB rfl _ _ rfl (qBH hra5) (qBG hrb5)) rfl ⟨qA0 (HBW.out.trans (HB5.out.mono HBW.out.size)) (by omega),_,_,_,_,_,_,rfl,?_,?_⟩
  · exact zJ
  · exact qN
theorem qJU (K:Nat) (w:World):Calls Tryz.prog 151 #[.int .i64 35] w (Chgs K [(1,0)] [(2,0)] w):=by
 have P1:=qAZ (fun w=>qAw 1 w)
 have P2:=qAZ (fun w=>qAw 3 w)
 have P3:=qAZ (fun w=>qAw 2 w)
 have TK:=qAZ qA2
 have PU:=qAZ qA6
 go_enter Tryz.func151,Tryz.ntmps151
 go_wp2_with (first
  |(go_at_call 145;(with_reducible refine(P1.out _).mono ?_);rintro e w1 ⟨rfl,hb1⟩;have HR1:=qAZ hb1;have hs1:=hb1.size;simp at hs1;clear hb1)
  |(go_at_call 145;(with_reducible refine(P2.out _).mono ?_);rintro e w2 ⟨rfl,hb2⟩;have HR2:=qAZ hb2;have hs2:=hb2.size;clear hb2)
  |(go_at_call 145;(with_reducible refine(P3.out _).mono ?_);rintro e w3 ⟨rfl,hb3⟩;have HR3:=qAZ hb3;have hs3:=hb3.size;clear hb3))
 refine qAp fun W hW=> ?_
 have HB3:Hid (Below w.heap.size w w3):=(((qAj w _).trans (HR1.out.mono (by simp))).trans (HR2.out.mono (by omega))).trans (HR3.out.mono (by omega))
 have HBW:Hid (Below w.heap.size w W):=by show Below _ _ _;rw[hW];exact((HB3.out.alloc HB3.out.size _).alloc qG _).alloc qG _
 have HRW:Hid (Blk W w.heap.size 161 #[.slice none 0 0,.slice none 0 0]):=by show Blk _ _ _ _;rw[hW];exact qAd (qAd (qAd (qAc (qAc (qAc (qAz w _ _) HR1.out (by simp)) HR2.out (by omega)) HR3.out (by omega))))
 have HN:Hid (Blk W w3.heap.size 58 #[.int .i64 1,.int .i64 0]∧Blk W (w3.heap.size+1) 58 #[.int .i64 3,.int .i64 0]∧Blk W (w3.heap.size+2) 58 #[.int .i64 2,.int .i64 0]):=by
  show _∧_
  rw[hW]
  exact⟨qAd (qAd (qAm rfl)),qAd (qAm (by simp)),qAm (by simp)⟩
 have hg:w.heap.size<w3.heap.size:=by omega
 have hgW:w3.heap.size+3≤W.heap.size:=by rw[hW];simp
 clear hW
 have HC:Hid (∀w',Below W.heap.size W w'→w'.cell? ⟨w3.heap.size,0,none⟩=some (.int .i64 1)∧w'.cell? ⟨w3.heap.size,1,none⟩=some (.int .i64 0)∧w'.cell? ⟨w3.heap.size+1,0,none⟩=some (.int .i64 3)∧w'.cell? ⟨w3.heap.size+1,1,none⟩=some (.int .i64 0)∧w'.cell? ⟨w3.heap.size+2,0,none⟩=some (.int .i64 2)∧w'.cell? ⟨w3.heap.size+2,1,none⟩=some (.int .i64 0)):=fun w' hb=>
  ⟨(qAc HN.out.1 hb (by omega)).cell 0,(qAc HN.out.1 hb (by omega)).cell 1,(qAc HN.out.2.1 hb (by omega)).cell 0,(qAc HN.out.2.1 hb (by omega)).cell 1,(qAc HN.out.2.2 hb (by omega)).cell 0,(qAc HN.out.2.2 hb (by omega)).cell 1⟩
 have SW:=qAZ (HC.out W (qAe _ _))
 have HCs:Hid (∀w' u v,Below W.heap.size W w'→((w'.setCell ⟨w.heap.size,0,none⟩ u).setCell ⟨w.heap.size,1,none⟩ v).cell? ⟨w3.heap.size,0,none⟩=some (.int .i64 1)∧((w'.setCell ⟨w.heap.size,0,none⟩ u).setCell ⟨w.heap.size,1,none⟩ v).cell? ⟨w3.heap.size,1,none⟩=some (.int .i64 0)∧((w'.setCell ⟨w.heap.size,0,none⟩ u).setCell ⟨w.heap.size,1,none⟩ v).cell? ⟨w3.heap.size+1,0,none⟩=some (.int .i64 3)∧((w'.setCell ⟨w.heap.size,0,none⟩ u).setCell ⟨w.heap.size,1,none⟩ v).cell? ⟨w3.heap.size+1,1,none⟩=some (.int .i64 0)∧((w'.setCell ⟨w.heap.size,0,none⟩ u).setCell ⟨w.heap.size,1,none⟩ v).cell? ⟨w3.heap.size+2,0,none⟩=some (.int .i64 2)∧((w'.setCell ⟨w.heap.size,0,none⟩ u).setCell ⟨w.heap.size,1,none⟩ v).cell? ⟨w3.heap.size+2,1,none⟩=some (.int .i64 0)):=fun w' u v hb=>
  ⟨(qAq (qAq (qAc HN.out.1 hb (by omega)) (by omega)) (by omega)).cell 0,(qAq (qAq (qAc HN.out.1 hb (by omega)) (by omega)) (by omega)).cell 1,(qAq (qAq (qAc HN.out.2.1 hb (by omega)) (by omega)) (by omega)).cell 0,(qAq (qAq (qAc HN.out.2.1 hb (by omega)) (by omega)) (by omega)).cell 1,(qAq (qAq (qAc HN.out.2.2 hb (by omega)) (by omega)) (by omega)).cell 0,(qAq (qAq (qAc HN.out.2.2 hb (by omega)) (by omega)) (by omega)).cell 1⟩
 go_wp2_with fail
 go_region_held3 (fun w'=>w'.cell? ⟨w3.heap.size,0,none⟩=some (.int .i64 1)∧w'.cell? ⟨w3.heap.size,1,none⟩=some (.int .i64 0)∧w'.cell? ⟨w3.heap.size+1,0,none⟩=some (.int .i64 3)∧w'.cell? ⟨w3.heap.size+1,1,none⟩=some (.int .i64 0)∧w'.cell? ⟨w3.heap.size+2,0,none⟩=some (.int .i64 2)∧w'.cell? ⟨w3.heap.size+2,1,none⟩=some (.int .i64 0))
  (first|exact SS5.out|exact SS4.out|(have hz:=HB5.out;clear hz;first|exact HC.out _ (HB5.out.alloc HB5.out.size _)|exact HC.out _ ((HB5.out.alloc HB5.out.size _).alloc qw _))|(have hz:=HB4.out;clear hz;first|exact HC.out _ (HB4.out.alloc HB4.out.size _)|exact HC.out _ ((HB4.out.alloc HB4.out.size _).alloc jC _))|(have hz:=HB5.out;clear hz;exact HCs.out _ _ _ HB5.out)|(have hz:=HB4.out;clear hz;exact HCs.out _ _ _ HB4.out)|exact SW.out|exact HC.out _ (qAe _ W).drew|exact HC.out _ (qAj W _).drew|exact HC.out _ ((qAj W _).alloc (by simp) _).drew)
  (first
    |(go_at_call 146
      with_reducible refine(TK.out _ _ _ _).mono ?_
      rintro e w4 ⟨rfl,hb4⟩
      have HB4:Hid (Below W.heap.size W w4):=qB
      have HR4:=qAZ hb4
      have hs4:=hb4.size
      try simp at hs4
      have HBk4:Hid (Blk w4 w.heap.size 161 #[.slice none 0 0,.slice none 0 0]):=qAc HRW.out HB4.out (by omega)
      have hra4:=HBk4.out.cell 0
      have hrb4:=HBk4.out.cell 1
      have hfa4:=HBk4.out.frozen 0
      have hfb4:=HBk4.out.frozen 1
      have SS4:=qAZ (HC.out _ HB4.out)
      clear hb4)
    |(go_at_call 147
      with_reducible refine(PU.out _ _ _ _ _ _ _).mono ?_
      rintro e w5 ⟨rfl,hb5⟩
      have HB5:Hid (Below W.heap.size W w5):=qH
      have HR5:=qAZ hb5
      have hs5:=hb5.size
      try simp at hs5
      have HBk5:Hid (Blk w5 w.heap.size 161 #[.slice none 0 0,.slice none 0 0]):=qAc HRW.out HB5.out (by omega)
      have hra5:=HBk5.out.cell 0
      have hrb5:=HBk5.out.cell 1
      have hfa5:=HBk5.out.frozen 0
      have hfb5:=HBk5.out.frozen 1
      have SS5:=qAZ (HC.out _ HB5.out)
      clear hb5))
 all_goals
  go_wp2_with fail
  refine bodyPost_ret (qBB rfl _ _ rfl (qBH hra5) (qBG hrb5)) rfl ⟨qA0 (HBW.out.trans (HB5.out.mono HBW.out.size)) (by omega),_,_,_,_,_,_,rfl,?_,?_⟩
  · exact qN
  · exact zH
theorem qJT (K:Nat) (w:World):Calls Tryz.prog 151 #[.int .i64 36] w (Chgs K [(2,0),(1,0)] [(1,0)] w):=by
 have P1:=qAZ (fun w=>qAw 1 w)
 have P2:=qAZ (fun w=>qAw 3 w)
 have P3:=qAZ (fun w=>qAw 2 w)
 have TK:=qAZ qA2
 have PU:=qAZ qA6
 go_enter Tryz.func151,Tryz.ntmps151
 go_wp2_with (first
  |(go_at_call 145;(with_reducible refine(P1.out _).mono ?_);rintro e w1 ⟨rfl,hb1⟩;have HR1:=qAZ hb1;have hs1:=hb1.size;simp at hs1;clear hb1)
  |(go_at_call 145;(with_reducible refine(P2.out _).mono ?_);rintro e w2 ⟨rfl,hb2⟩;have HR2:=qAZ hb2;have hs2:=hb2.size;clear hb2)
  |(go_at_call 145;(with_reducible refine(P3.out _).mono ?_);rintro e w3 ⟨rfl,hb3⟩;have HR3:=qAZ hb3;have hs3:=hb3.size;clear hb3))
 refine qAp fun W hW=> ?_
 have HB3:Hid (Below w.heap.size w w3):=(((qAj w _).trans (HR1.out.mono (by simp))).trans (HR2.out.mono (by omega))).trans (HR3.out.mono (by omega))
 have HBW:Hid (Below w.heap.size w W):=by show Below _ _ _;rw[hW];exact((HB3.out.alloc HB3.out.size _).alloc qG _).alloc qG _
 have HRW:Hid (Blk W w.heap.size 161 #[.slice none 0 0,.slice none 0 0]):=by show Blk _ _ _ _;rw[hW];exact qAd (qAd (qAd (qAc (qAc (qAc (qAz w _ _) HR1.out (by simp)) HR2.out (by omega)) HR3.out (by omega))))
 have HN:Hid (Blk W w3.heap.size 58 #[.int .i64 1,.int .i64 0]∧Blk W (w3.heap.size+1) 58 #[.int .i64 3,.int .i64 0]∧Blk W (w3.heap.size+2) 58 #[.int .i64 2,.int .i64 0]):=by
  show _∧_
  rw[hW]
  exact⟨qAd (qAd (qAm rfl)),qAd (qAm (by simp)),qAm (by simp)⟩
 have hg:w.heap.size<w3.heap.size:=by omega
 have hgW:w3.heap.size+3≤W.heap.size:=by rw[hW];simp
 clear hW
 have HC:Hid (∀w',Below W.heap.size W w'→w'.cell? ⟨w3.heap.size,0,none⟩=some (.int .i64 1)∧w'.cell? ⟨w3.heap.size,1,none⟩=some (.int .i64 0)∧w'.cell? ⟨w3.heap.size+1,0,none⟩=some (.int .i64 3)∧w'.cell? ⟨w3.heap.size+1,1,none⟩=some (.int .i64 0)∧w'.cell? ⟨w3.heap.size+2,0,none⟩=some (.int .i64 2)∧w'.cell? ⟨w3.heap.size+2,1,none⟩=some (.int .i64 0)):=fun w' hb=>
  ⟨(qAc HN.out.1 hb (by omega)).cell 0,(qAc HN.out.1 hb (by omega)).cell 1,(qAc HN.out.2.1 hb (by omega)).cell 0,(qAc HN.out.2.1 hb (by omega)).cell 1,(qAc HN.out.2.2 hb (by omega)).cell 0,(qAc HN.out.2.2 hb (by omega)).cell 1⟩
 have SW:=qAZ (HC.out W (qAe _ _))
 have HCs:Hid (∀w' u v,Below W.heap.size W w'→((w'.setCell ⟨w.heap.size,0,none⟩ u).setCell ⟨w.heap.size,1,none⟩ v).cell? ⟨w3.heap.size,0,none⟩=some (.int .i64 1)∧((w'.setCell ⟨w.heap.size,0,none⟩ u).setCell ⟨w.heap.size,1,none⟩ v).cell? ⟨w3.heap.size,1,none⟩=some (.int .i64 0)∧((w'.setCell ⟨w.heap.size,0,none⟩ u).setCell ⟨w.heap.size,1,none⟩ v).cell? ⟨w3.heap.size+1,0,none⟩=some (.int .i64 3)∧((w'.setCell ⟨w.heap.size,0,none⟩ u).setCell ⟨w.heap.size,1,none⟩ v).cell? ⟨w3.heap.size+1,1,none⟩=some (.int .i64 0)∧((w'.setCell ⟨w.heap.size,0,none⟩ u).setCell ⟨w.heap.size,1,none⟩ v).cell? ⟨w3.heap.size+2,0,none⟩=some (.int .i64 2)∧((w'.setCell ⟨w.heap.size,0,none⟩ u).setCell ⟨w.heap.size,1,none⟩ v).cell? ⟨w3.heap.size+2,1,none⟩=some (.int .i64 0)):=fun w' u v hb=>
  ⟨(qAq (qAq (qAc HN.out.1 hb (by omega)) (by omega)) (by omega)).cell 0,(qAq (qAq (qAc HN.out.1 hb (by omega)) (by omega)) (by omega)).cell 1,(qAq (qAq (qAc HN.out.2.1 hb (by omega)) (by omega)) (by omega)).cell 0,(qAq (qAq (qAc HN.out.2.1 hb (by omega)) (by omega)) (by omega)).cell 1,(qAq (qAq (qAc HN.out.2.2 hb (by omega)) (by omega)) (by omega)).cell 0,(qAq (qAq (qAc HN.out.2.2 hb (by omega)) (by omega)) (by omega)).cell 1⟩
 go_wp2_with fail
 go_region_held3 (fun w'=>w'.cell? ⟨w3.heap.size,0,none⟩=some (.int .i64 1)∧w'.cell? ⟨w3.heap.size,1,none⟩=some (.int .i64 0)∧w'.cell? ⟨w3.heap.size+1,0,none⟩=some (.int .i64 3)∧w'.cell? ⟨w3.heap.size+1,1,none⟩=some (.int .i64 0)∧w'.cell? ⟨w3.heap.size+2,0,none⟩=some (.int .i64 2)∧w'.cell? ⟨w3.heap.size+2,1,none⟩=some (.int .i64 0))
  (first|exact SS5.out|exact SS4.out|(have hz:=HB5.out;clear hz;first|exact HC.out _ (HB5.out.alloc HB5.out.size _)|exact HC.out _ ((HB5.out.alloc HB5.out.size _).alloc qw _))|(have hz:=HB4.out;clear hz;first|exact HC.out _ (HB4.out.alloc HB4.out.size _)|exact HC.out _ ((HB4.out.alloc HB4.out.size _).alloc jC _))|(have hz:=HB5.out;clear hz;exact HCs.out _ _ _ HB5.out)|(have hz:=HB4.out;clear hz;exact HCs.out _ _ _ HB4.out)|exact SW.out|exact HC.out _ (qAe _ W).drew|exact HC.out _ (qAj W _).drew|exact HC.out _ ((qAj W _).alloc (by simp) _).drew)
  (first
    |(go_at_call 146
      with_reducible refine(TK.out _ _ _ _).mono ?_
      rintro e w4 ⟨rfl,hb4⟩
      have HB4:Hid (Below W.heap.size W w4):=qB
      have HR4:=qAZ hb4
      have hs4:=hb4.size
      try simp at hs4
      have HBk4:Hid (Blk w4 w.heap.size 161 #[.slice none 0 0,.slice none 0 0]):=qAc HRW.out HB4.out (by omega)
      have hra4:=HBk4.out.cell 0
      have hrb4:=HBk4.out.cell 1
      have hfa4:=HBk4.out.frozen 0
      have hfb4:=HBk4.out.frozen 1
      have SS4:=qAZ (HC.out _ HB4.out)
      clear hb4)
    |(go_at_call 147
      with_reducible refine(PU.out _ _ _ _ _ _ _).mono ?_
      rintro e w5 ⟨rfl,hb5⟩
      have HB5:Hid (Below W.heap.size W w5):=qH
      have HR5:=qAZ hb5
      have hs5:=hb5.size
      try simp at hs5
      have HBk5:Hid (Blk w5 w.heap.size 161 #[.slice none 0 0,.slice none 0 0]):=qAc HRW.out HB5.out (by omega)
      have hra5:=HBk5.out.cell 0
      have hrb5:=HBk5.out.cell 1
      have hfa5:=HBk5.out.frozen 0
      have hfb5:=HBk5.out.frozen 1
      have SS5:=qAZ (HC.out _ HB5.out)
      clear hb5))
 all_goals
  go_wp2_with fail
  refine bodyPost_ret (qBB rfl _ _ rfl (qBH hra5) (qBG hrb5)) rfl ⟨qA0 (HBW.out.trans (HB5.out.mono HBW.out.size)) (by omega),_,_,_,_,_,_,rfl,?_,?_⟩
  · exact qBK (cs:= #[.int .i64 2,.int .i64 0,.int .i64 1,.int .i64 0]) (ts:=[(2,0),(1,0)]) (by(repeat(first|((with_reducible refine qAm ?_);simp;done)|with_reducible refine qAd ?_|with_reducible refine qAy ?_|with_reducible refine qAq ?_ (by omega)|with_reducible refine qAc ?_ HR5.out qK|with_reducible refine qAc ?_ HR4.out qK|with_reducible exact HRW.out))) (by omega) rfl (qBg (by omega) (qBg (by omega) (A64.nil))) rfl (by omega)
  · exact qN
theorem qJS (K:Nat) (w:World):Calls Tryz.prog 151 #[.int .i64 37] w (Chgs K [(2,0),(1,0),(1,0)] [] w):=by
 have P1:=qAZ (fun w=>qAw 1 w)
 have P2:=qAZ (fun w=>qAw 3 w)
 have P3:=qAZ (fun w=>qAw 2 w)
 have TK:=qAZ qA2
 have PU:=qAZ qA6
 go_enter Tryz.func151,Tryz.ntmps151
 go_upto_region 2 with(first
  |(go_at_call 145;(with_reducible refine(P1.out _).mono ?_);rintro e w1 ⟨rfl,hb1⟩;have HR1:=qAZ hb1;have hs1:=hb1.size;simp at hs1;clear hb1)
  |(go_at_call 145;(with_reducible refine(P2.out _).mono ?_);rintro e w2 ⟨rfl,hb2⟩;have HR2:=qAZ hb2;have hs2:=hb2.size;clear hb2)
  |(go_at_call 145;(with_reducible refine(P3.out _).mono ?_);rintro e w3 ⟨rfl,hb3⟩;have HR3:=qAZ hb3;have hs3:=hb3.size;clear hb3))
 refine qAp fun W hW=> ?_
 have HB3:Hid (Below w.heap.size w w3):=(((qAj w _).trans (HR1.out.mono (by simp))).trans (HR2.out.mono (by omega))).trans (HR3.out.mono (by omega))
 have HBW:Hid (Below w.heap.size w W):=by show Below _ _ _;rw[hW];exact((HB3.out.alloc HB3.out.size _).alloc qG _).alloc qG _
 have HRW:Hid (Blk W w.heap.size 161 #[.slice none 0 0,.slice none 0 0]):=by show Blk _ _ _ _;rw[hW];exact qAd (qAd (qAd (qAc (qAc (qAc (qAz w _ _) HR1.out (by simp)) HR2.out (by omega)) HR3.out (by omega))))
 have HN:Hid (Blk W w3.heap.size 58 #[.int .i64 1,.int .i64 0]∧Blk W (w3.heap.size+1) 58 #[.int .i64 3,.int .i64 0]∧Blk W (w3.heap.size+2) 58 #[.int .i64 2,.int .i64 0]):=by
  show _∧_
  rw[hW]
  exact⟨qAd (qAd (qAm rfl)),qAd (qAm (by simp)),qAm (by simp)⟩
 have hg:w.heap.size<w3.heap.size:=by omega
 have hgW:w3.heap.size+3≤W.heap.size:=by rw[hW];simp
 clear hW
 have HC:Hid (∀w',Below W.heap.size W w'→w'.cell? ⟨w3.heap.size,0,none⟩=some (.int .i64 1)∧w'.cell? ⟨w3.heap.size,1,none⟩=some (.int .i64 0)∧w'.cell? ⟨w3.heap.size+1,0,none⟩=some (.int .i64 3)∧w'.cell? ⟨w3.heap.size+1,1,none⟩=some (.int .i64 0)∧w'.cell? ⟨w3.heap.size+2,0,none⟩=some (.int .i64 2)∧w'.cell? ⟨w3.heap.size+2,1,none⟩=some (.int .i64 0)):=fun w' hb=>
  ⟨(qAc HN.out.1 hb (by omega)).cell 0,(qAc HN.out.1 hb (by omega)).cell 1,(qAc HN.out.2.1 hb (by omega)).cell 0,(qAc HN.out.2.1 hb (by omega)).cell 1,(qAc HN.out.2.2 hb (by omega)).cell 0,(qAc HN.out.2.2 hb (by omega)).cell 1⟩
 obtain⟨x0,x1,x2,x3,x4,x5⟩:=HC.out W (qAe _ _)
 go_wp2_with (first
  |(go_at_call 146
    with_reducible refine(TK.out _ _ _ _).mono ?_
    rintro e w4 ⟨rfl,hb4⟩
    have HB4:Hid (Below W.heap.size W w4):=qB
    have HR4:=qAZ hb4
    have hs4:=hb4.size
    try simp at hs4
    have HBk4:Hid (Blk w4 w.heap.size 161 #[.slice none 0 0,.slice none 0 0]):=qAc HRW.out HB4.out (by omega)
    have hra4:=HBk4.out.cell 0
    have hrb4:=HBk4.out.cell 1
    have hfa4:=HBk4.out.frozen 0
    have hfb4:=HBk4.out.frozen 1
    clear hb4))
 refine bodyPost_ret (qBB rfl _ _ rfl (qBH hra4) (qBG hrb4)) rfl ⟨qA0 (HBW.out.trans (HB4.out.mono HBW.out.size)) (by omega),_,_,_,_,_,_,rfl,?_,?_⟩
 · exact qBK (cs:= #[.int .i64 2,.int .i64 0,.int .i64 1,.int .i64 0,.int .i64 1,.int .i64 0]) (ts:=[(2,0),(1,0),(1,0)]) (by(repeat(first|((with_reducible refine qAm ?_);simp;done)|with_reducible refine qAd ?_|with_reducible refine qAy ?_|with_reducible refine qAq ?_ (by omega)|with_reducible refine qAc ?_ HR4.out qK|with_reducible exact HRW.out))) (by omega) rfl (qBg (by omega) (qBg (by omega) (qBg (by omega) (A64.nil)))) rfl (by omega)
 · exact zp
theorem qJR (K:Nat) (w:World):Calls Tryz.prog 151 #[.int .i64 38] w (Chgs K [(2,0)] [(1,0)] w):=by
 have P1:=qAZ (fun w=>qAw 1 w)
 have P2:=qAZ (fun w=>qAw 3 w)
 have P3:=qAZ (fun w=>qAw 2 w)
 have TK:=qAZ qA2
 have PU:=qAZ qA6
 go_enter Tryz.func151,Tryz.ntmps151
 go_wp2_with (first
  |(go_at_call 145;(with_reducible refine(P1.out _).mono ?_);rintro e w1 ⟨rfl,hb1⟩;have HR1:=qAZ hb1;have hs1:=hb1.size;simp at hs1;clear hb1)
  |(go_at_call 145;(with_reducible refine(P2.out _).mono ?_);rintro e w2 ⟨rfl,hb2⟩;have HR2:=qAZ hb2;have hs2:=hb2.size;clear hb2)
  |(go_at_call 145;(with_reducible refine(P3.out _).mono ?_);rintro e w3 ⟨rfl,hb3⟩;have HR3:=qAZ hb3;have hs3:=hb3.size;clear hb3))
 refine qAp fun W hW=> ?_
 have HB3:Hid (Below w.heap.size w w3):=(((qAj w _).trans (HR1.out.mono (by simp))).trans (HR2.out.mono (by omega))).trans (HR3.out.mono (by omega))
 have HBW:Hid (Below w.heap.size w W):=by show Below _ _ _;rw[hW];exact((HB3.out.alloc HB3.out.size _).alloc qG _).alloc qG _
 have HRW:Hid (Blk W w.heap.size 161 #[.slice none 0 0,.slice none 0 0]):=by show Blk _ _ _ _;rw[hW];exact qAd (qAd (qAd (qAc (qAc (qAc (qAz w _ _) HR1.out (by simp)) HR2.out (by omega)) HR3.out (by omega))))
 have HN:Hid (Blk W w3.heap.size 58 #[.int .i64 1,.int .i64 0]∧Blk W (w3.heap.size+1) 58 #[.int .i64 3,.int .i64 0]∧Blk W (w3.heap.size+2) 58 #[.int .i64 2,.int .i64 0]):=by
  show _∧_
  rw[hW]
  exact⟨qAd (qAd (qAm rfl)),qAd (qAm (by simp)),qAm (by simp)⟩
 have hg:w.heap.size<w3.heap.size:=by omega
 have hgW:w3.heap.size+3≤W.heap.size:=by rw[hW];simp
 clear hW
 have HC:Hid (∀w',Below W.heap.size W w'→w'.cell? ⟨w3.heap.size,0,none⟩=some (.int .i64 1)∧w'.cell? ⟨w3.heap.size,1,none⟩=some (.int .i64 0)∧w'.cell? ⟨w3.heap.size+1,0,none⟩=some (.int .i64 3)∧w'.cell? ⟨w3.heap.size+1,1,none⟩=some (.int .i64 0)∧w'.cell? ⟨w3.heap.size+2,0,none⟩=some (.int .i64 2)∧w'.cell? ⟨w3.heap.size+2,1,none⟩=some (.int .i64 0)):=fun w' hb=>
  ⟨(qAc HN.out.1 hb (by omega)).cell 0,(qAc HN.out.1 hb (by omega)).cell 1,(qAc HN.out.2.1 hb (by omega)).cell 0,(qAc HN.out.2.1 hb (by omega)).cell 1,(qAc HN.out.2.2 hb (by omega)).cell 0,(qAc HN.out.2.2 hb (by omega)).cell 1⟩
 have SW:=qAZ (HC.out W (qAe _ _))
 have HCs:Hid (∀w' u v,Below W.heap.size W w'→((w'.setCell ⟨w.heap.size,0,none⟩ u).setCell ⟨w.heap.size,1,none⟩ v).cell? ⟨w3.heap.size,0,none⟩=some (.int .i64 1)∧((w'.setCell ⟨w.heap.size,0,none⟩ u).setCell ⟨w.heap.size,1,none⟩ v).cell? ⟨w3.heap.size,1,none⟩=some (.int .i64 0)∧((w'.setCell ⟨w.heap.size,0,none⟩ u).setCell ⟨w.heap.size,1,none⟩ v).cell? ⟨w3.heap.size+1,0,none⟩=some (.int .i64 3)∧((w'.setCell ⟨w.heap.size,0,none⟩ u).setCell ⟨w.heap.size,1,none⟩ v).cell? ⟨w3.heap.size+1,1,none⟩=some (.int .i64 0)∧((w'.setCell ⟨w.heap.size,0,none⟩ u).setCell ⟨w.heap.size,1,none⟩ v).cell? ⟨w3.heap.size+2,0,none⟩=some (.int .i64 2)∧((w'.setCell ⟨w.heap.size,0,none⟩ u).setCell ⟨w.heap.size,1,none⟩ v).cell? ⟨w3.heap.size+2,1,none⟩=some (.int .i64 0)):=fun w' u v hb=>
  ⟨(qAq (qAq (qAc HN.out.1 hb (by omega)) (by omega)) (by omega)).cell 0,(qAq (qAq (qAc HN.out.1 hb (by omega)) (by omega)) (by omega)).cell 1,(qAq (qAq (qAc HN.out.2.1 hb (by omega)) (by omega)) (by omega)).cell 0,(qAq (qAq (qAc HN.out.2.1 hb (by omega)) (by omega)) (by omega)).cell 1,(qAq (qAq (qAc HN.out.2.2 hb (by omega)) (by omega)) (by omega)).cell 0,(qAq (qAq (qAc HN.out.2.2 hb (by omega)) (by omega)) (by omega)).cell 1⟩
 go_wp2_with fail
 go_region_held3 (fun w'=>w'.cell? ⟨w3.heap.size,0,none⟩=some (.int .i64 1)∧w'.cell? ⟨w3.heap.size,1,none⟩=some (.int .i64 0)∧w'.cell? ⟨w3.heap.size+1,0,none⟩=some (.int .i64 3)∧w'.cell? ⟨w3.heap.size+1,1,none⟩=some (.int .i64 0)∧w'.cell? ⟨w3.heap.size+2,0,none⟩=some (.int .i64 2)∧w'.cell? ⟨w3.heap.size+2,1,none⟩=some (.int .i64 0))
  (first|exact SS5.out|exact SS4.out|(have hz:=HB5.out;clear hz;first|exact HC.out _ (HB5.out.alloc HB5.out.size _)|exact HC.out _ ((HB5.out.alloc HB5.out.size _).alloc qw _))|(have hz:=HB4.out;clear hz;first|exact HC.out _ (HB4.out.alloc HB4.out.size _)|exact HC.out _ ((HB4.out.alloc HB4.out.size _).alloc jC _))|(have hz:=HB5.out;clear hz;exact HCs.out _ _ _ HB5.out)|(have hz:=HB4.out;clear hz;exact HCs.out _ _ _ HB4.out)|exact SW.out|exact HC.out _ (qAe _ W).drew|exact HC.out _ (qAj W _).drew|exact HC.out _ ((qAj W _).alloc (by simp) _).drew)
  (first
    |(go_at_call 146
      with_reducible refine(TK.out _ _ _ _).mono ?_
      rintro e w4 ⟨rfl,hb4⟩
      have HB4:Hid (Below W.heap.size W w4):=qB
      have HR4:=qAZ hb4
      have hs4:=hb4.size
      try simp at hs4
      have HBk4:Hid (Blk w4 w.heap.size 161 #[.slice none 0 0,.slice none 0 0]):=qAc HRW.out HB4.out (by omega)
      have hra4:=HBk4.out.cell 0
      have hrb4:=HBk4.out.cell 1
      have hfa4:=HBk4.out.frozen 0
      have hfb4:=HBk4.out.frozen 1
      have SS4:=qAZ (HC.out _ HB4.out)
      clear hb4)
    |(go_at_call 147
      with_reducible refine(PU.out _ _ _ _ _ _ _).mono ?_
      rintro e w5 ⟨rfl,hb5⟩
      have HB5:Hid (Below W.heap.size W w5):=qH
      have HR5:=qAZ hb5
      have hs5:=hb5.size
      try simp at hs5
      have HBk5:Hid (Blk w5 w.heap.size 161 #[.slice none 0 0,.slice none 0 0]):=qAc HRW.out HB5.out (by omega)
      have hra5:=HBk5.out.cell 0
      have hrb5:=HBk5.out.cell 1
      have hfa5:=HBk5.out.frozen 0
      have hfb5:=HBk5.out.frozen 1
      have SS5:=qAZ (HC.out _ HB5.out)
      clear hb5))
 all_goals
  go_wp2_with fail
  refine bodyPost_ret (qBB rfl _ _ rfl (qBH hra5) (qBG hrb5)) rfl ⟨qA0 (HBW.out.trans (HB5.out.mono HBW.out.size)) (by omega),_,_,_,_,_,_,rfl,?_,?_⟩
  · exact zH
  · exact qBK (cs:= #[.int .i64 1,.int .i64 0]) (ts:=[(1,0)]) (by(repeat(first|((with_reducible refine qAm ?_);simp;done)|with_reducible refine qAd ?_|with_reducible refine qAy ?_|with_reducible refine qAq ?_ (by omega)|with_reducible refine qAc ?_ HR5.out qK|with_reducible refine qAc ?_ HR4.out qK|with_reducible exact HRW.out))) (by omega) rfl (qBg (by omega) (A64.nil)) rfl (by omega)
end Go.Proofs.YtconajaecpgjgaaGreat
