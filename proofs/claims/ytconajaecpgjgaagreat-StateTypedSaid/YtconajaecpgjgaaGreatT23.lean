/-
Frc Fcg Fch
-/
import Derived.Test.YtconajaecpgjgaaGreatT07
import Derived.Test.YtconajaecpgjgaaGreatT16
import Derived.Test.YtconajaecpgjgaaGreatT17
import Derived.Test.YtconajaecpgjgaaGreatT18
import Derived.Test.YtconajaecpgjgaaGreatT19
import Derived.Test.YtconajaecpgjgaaGreatT21
import Derived.Test.YtconajaecpgjgaaGreatT22
import Derived.Deep.RegionHeld3
set_option linter.unusedSimpArgs false
set_option linter.unusedVariables false
set_option maxRecDepth 100000
set_option maxHeartbeats 4000000
namespace Go.Proofs.YtconajaecpgjgaaGreat
open Go.RowKit
theorem qHJ (K:Nat) (A:Option Addr) (n c:Nat) (ts:List Typ) (ia ib:Int) (w:World) (hK:K≤w.heap.size) (hl:ts.length=n) (hcap:n≤c) (hmx:c≤maxLen) (h:Sq typL (·<K) w A ts) (hia:I64 ia):Calls Tryz.prog 150 #[.slice A n c,.agg #[.int .i64 28,.int .i64 ia,.int .i64 ib]] w (Chgs K ts [(4,ia)] w):=by
 have TK:=qAZ qA2
 have PU:=qAZ qA6
 have HTS:Hid (tysL.R (·<K) w [.slice A n c] ts):=⟨A,c,by rw[hl],by rw[hl];exact hcap,hmx,h⟩
 have HIA:Hid (I64 ((4,ia):Typ).1∧I64 ((4,ia):Typ).2):=⟨qAo (by omega) (by omega),hia⟩
 have hn9:n≤9223372036854775807:=by unfold maxLen at hmx;omega
 clear hmx hl h
 go_enter Tryz.func150,Tryz.ntmps150
 go_wp2_with fail
 refine qAp fun W hW=> ?_
 have HBW:Hid (Below w.heap.size w W):=by show Below _ _ _;rw[hW];exact((qAj w _).alloc (by simp) _).alloc qG _
 have HI:Hid (Blk W w.heap.size 65 #[.int .i64 28,.int .i64 ia,.int .i64 ib]):=by show Blk _ _ _ _;rw[hW];exact qAd (qAd (qAz w _ _))
 have HRW:Hid (Blk W (w.heap.size+1) 161 #[.slice none 0 0,.slice none 0 0]):=by show Blk _ _ _ _;rw[hW];exact qAd (qAm (by simp))
 have HG:Hid (Blk W (w.heap.size+2) 58 #[.int .i64 4,.int .i64 ia]):=by show Blk _ _ _ _;rw[hW];exact qAm (by simp)
 have hsW:w.heap.size+3≤W.heap.size:=by rw[hW];simp
 clear hW
 have HL:Hid (∀w':World,(∀b,b<W.heap.size→b≠(w.heap.size+1)→w'.heap[b]? =W.heap[b]?)→w'.cell? ⟨w.heap.size+2,0,none⟩=some (.int .i64 4)∧w'.cell? ⟨w.heap.size+2,1,none⟩=some (.int .i64 ia)):=fun w' hk=>⟨(qAb (hk _ zw qU)).trans (HG.out.cell 0),(qAb (hk _ zw qU)).trans (HG.out.cell 1)⟩
 have HC:Hid (∀w',Below W.heap.size W w'→w'.cell? ⟨w.heap.size+2,0,none⟩=some (.int .i64 4)∧w'.cell? ⟨w.heap.size+2,1,none⟩=some (.int .i64 ia)):=fun w' hb=>HL.out w' fun b h1 _=>hb.block b h1
 have HCs:Hid (∀w' u v,Below W.heap.size W w'→((w'.setCell ⟨(w.heap.size+1),0,none⟩ u).setCell ⟨(w.heap.size+1),1,none⟩ v).cell? ⟨w.heap.size+2,0,none⟩=some (.int .i64 4)∧((w'.setCell ⟨(w.heap.size+1),0,none⟩ u).setCell ⟨(w.heap.size+1),1,none⟩ v).cell? ⟨w.heap.size+2,1,none⟩=some (.int .i64 ia)):=fun w' u v hb=>HL.out _ fun b h1 h2=>((qAi _ ⟨(w.heap.size+1),1,none⟩ v b h2).trans (qAi _ ⟨(w.heap.size+1),0,none⟩ u b h2)).trans (hb.block b h1)
 have SW:=qAZ (HC.out W (qAe _ _))
 go_wp2_with fail
 go_region_held3 (fun w'=>w'.cell? ⟨w.heap.size+2,0,none⟩=some (.int .i64 4)∧w'.cell? ⟨w.heap.size+2,1,none⟩=some (.int .i64 ia))
  (first|exact SS5.out|exact SS4.out|(have hz:=HB5.out;clear hz;first|exact HC.out _ (HB5.out.alloc HB5.out.size _)|exact HC.out _ ((HB5.out.alloc HB5.out.size _).alloc qw _))|(have hz:=HB4.out;clear hz;first|exact HC.out _ (HB4.out.alloc HB4.out.size _)|exact HC.out _ ((HB4.out.alloc HB4.out.size _).alloc jC _))|(have hz:=HB5.out;clear hz;exact HCs.out _ _ _ HB5.out)|(have hz:=HB4.out;clear hz;exact HCs.out _ _ _ HB4.out)|exact SW.out|exact HC.out _ (qAe _ W).drew|exact HC.out _ (qAj W _).drew|exact HC.out _ ((qAj W _).alloc (by simp) _).drew)
  (first
    |(go_at_call 146
      with_reducible refine(TK.out _ _ _ _).mono ?_
      rintro e w4 ⟨rfl,hb4⟩
      have HB4:Hid (Below W.heap.size W w4):=qB
      have HR4:=qAZ hb4
      have hs4:=hb4.size
      try simp at hs4
      have HBk4:Hid (Blk w4 (w.heap.size+1) 161 #[.slice none 0 0,.slice none 0 0]):=qAc HRW.out HB4.out (by omega)
      have hra4:=HBk4.out.cell 0
      have hrb4:=HBk4.out.cell 1
      have hfa4:=HBk4.out.frozen 0
      have hfb4:=HBk4.out.frozen 1
      have SS4:=qAZ (HC.out _ HB4.out)
      clear hb4)
    |(go_at_call 147
      with_reducible refine(PU.out _ _ _ _ _ _ _).mono ?_
      rintro e w5 ⟨rfl,hb5⟩
      have HB5:Hid (Below W.heap.size W w5):=qH
      have HR5:=qAZ hb5
      have hs5:=hb5.size
      try simp at hs5
      have HBk5:Hid (Blk w5 (w.heap.size+1) 161 #[.slice none 0 0,.slice none 0 0]):=qAc HRW.out HB5.out (by omega)
      have hra5:=HBk5.out.cell 0
      have hrb5:=HBk5.out.cell 1
      have hfa5:=HBk5.out.frozen 0
      have hfb5:=HBk5.out.frozen 1
      have SS5:=qAZ (HC.out _ HB5.out)
      clear hb5))
 all_goals
  go_wp2_with fail
  refine bodyPost_ret (qBB rfl _ _ rfl (qBH hra5) (qBG hrb5)) rfl ⟨qA0 (HBW.out.trans (HB5.out.mono HBW.out.size)) (by omega),_,_,_,_,_,_,rfl,?_,?_⟩
  · exact tysL.wide (tysL.keep HTS.out fun b hb=>(qA0 (R:=(w.heap.size+1)) (HBW.out.trans (HB5.out.mono HBW.out.size)) (by omega)).block b (by omega)) fun b hb=> .inl hb
  · exact zI
theorem qHI (K:Nat) (A:Option Addr) (n c:Nat) (ts:List Typ) (ia ib:Int) (w:World) (hK:K≤w.heap.size) (hl:ts.length=n) (hcap:n≤c) (hmx:c≤maxLen) (h:Sq typL (·<K) w A ts) (hia:I64 ia) (t:Typ) (j:Nat) (hj:ib=(j:Int)) (ht:ts[j]? =some t):Calls Tryz.prog 150 #[.slice A n c,.agg #[.int .i64 29,.int .i64 ia,.int .i64 ib]] w (Chgs K [(4,ia)] [t] w):=by
 have TK:=qAZ qA2
 have PU:=qAZ qA6
 have HTS:Hid (tysL.R (·<K) w [.slice A n c] ts):=⟨A,c,by rw[hl],by rw[hl];exact hcap,hmx,h⟩
 have HIA:Hid (I64 ((4,ia):Typ).1∧I64 ((4,ia):Typ).2):=⟨qAo (by omega) (by omega),hia⟩
 subst hj
 have hjn:(j:Int)<(n:Int):=by have:=(qAh.1 ht).1;omega
 have HTT:=qAZ (h.a64 t (qAk ht))
 obtain⟨a,cs,rfl,hab,hcl,hr⟩:=h.at ht
 obtain⟨rfl,-,-⟩:=hr
 have hn9:n≤9223372036854775807:=by unfold maxLen at hmx;omega
 clear hmx ht hl h
 go_enter Tryz.func150,Tryz.ntmps150
 go_wp2_with fail
 refine qAp fun W hW=> ?_
 have HBW:Hid (Below w.heap.size w W):=by show Below _ _ _;rw[hW];exact((qAj w _).alloc (by simp) _).alloc qG _
 have HI:Hid (Blk W w.heap.size 65 #[.int .i64 29,.int .i64 ia,.int .i64 (j:Int)]):=by show Blk _ _ _ _;rw[hW];exact qAd (qAd (qAz w _ _))
 have HRW:Hid (Blk W (w.heap.size+1) 161 #[.slice none 0 0,.slice none 0 0]):=by show Blk _ _ _ _;rw[hW];exact qAd (qAm (by simp))
 have HG:Hid (Blk W (w.heap.size+2) 58 #[.int .i64 4,.int .i64 ia]):=by show Blk _ _ _ _;rw[hW];exact qAm (by simp)
 have hsW:w.heap.size+3≤W.heap.size:=by rw[hW];simp
 clear hW
 have hc0:=(HBW.out.cell (p:=a.add (j*2)) qp).trans (hcl 0 _ rfl)
 have hc1:=(HBW.out.cell (p:=a.add (j*2+1)) qp).trans (hcl 1 _ rfl)
 rw[qAl a (j*2) 1 (by omega)] at hc1
 clear hcl
 have HL:Hid (∀w':World,(∀b,b<W.heap.size→b≠(w.heap.size+1)→w'.heap[b]? =W.heap[b]?)→w'.cell? ⟨w.heap.size+2,0,none⟩=some (.int .i64 4)∧w'.cell? ⟨w.heap.size+2,1,none⟩=some (.int .i64 ia)∧w'.cell? ⟨w.heap.size,2,none⟩=some (.int .i64 (j:Int))∧w'.cell? (a.add (j*2))=some (.int .i64 t.1)∧w'.cell? ⟨(a.add (j*2)).block,(a.add (j*2)).off+1,none⟩=some (.int .i64 t.2)):=fun w' hk=>⟨(qAb (hk _ zw qU)).trans (HG.out.cell 0),(qAb (hk _ zw qU)).trans (HG.out.cell 1),(qAb (hk _ qAK je)).trans (HI.out.cell 2),(qAb (hk _ qAV qAQ)).trans (hc0),(qAb (hk _ qAV qAQ)).trans (hc1)⟩
 have HC:Hid (∀w',Below W.heap.size W w'→w'.cell? ⟨w.heap.size+2,0,none⟩=some (.int .i64 4)∧w'.cell? ⟨w.heap.size+2,1,none⟩=some (.int .i64 ia)∧w'.cell? ⟨w.heap.size,2,none⟩=some (.int .i64 (j:Int))∧w'.cell? (a.add (j*2))=some (.int .i64 t.1)∧w'.cell? ⟨(a.add (j*2)).block,(a.add (j*2)).off+1,none⟩=some (.int .i64 t.2)):=fun w' hb=>HL.out w' fun b h1 _=>hb.block b h1
 have HCs:Hid (∀w' u v,Below W.heap.size W w'→((w'.setCell ⟨(w.heap.size+1),0,none⟩ u).setCell ⟨(w.heap.size+1),1,none⟩ v).cell? ⟨w.heap.size+2,0,none⟩=some (.int .i64 4)∧((w'.setCell ⟨(w.heap.size+1),0,none⟩ u).setCell ⟨(w.heap.size+1),1,none⟩ v).cell? ⟨w.heap.size+2,1,none⟩=some (.int .i64 ia)∧((w'.setCell ⟨(w.heap.size+1),0,none⟩ u).setCell ⟨(w.heap.size+1),1,none⟩ v).cell? ⟨w.heap.size,2,none⟩=some (.int .i64 (j:Int))∧((w'.setCell ⟨(w.heap.size+1),0,none⟩ u).setCell ⟨(w.heap.size+1),1,none⟩ v).cell? (a.add (j*2))=some (.int .i64 t.1)∧((w'.setCell ⟨(w.heap.size+1),0,none⟩ u).setCell ⟨(w.heap.size+1),1,none⟩ v).cell? ⟨(a.add (j*2)).block,(a.add (j*2)).off+1,none⟩=some (.int .i64 t.2)):=fun w' u v hb=>HL.out _ fun b h1 h2=>((qAi _ ⟨(w.heap.size+1),1,none⟩ v b h2).trans (qAi _ ⟨(w.heap.size+1),0,none⟩ u b h2)).trans (hb.block b h1)
 have SW:=qAZ (HC.out W (qAe _ _))
 go_wp2_with fail
 go_region_held3 (fun w'=>w'.cell? ⟨w.heap.size+2,0,none⟩=some (.int .i64 4)∧w'.cell? ⟨w.heap.size+2,1,none⟩=some (.int .i64 ia)∧w'.cell? ⟨w.heap.size,2,none⟩=some (.int .i64 (j:Int))∧w'.cell? (a.add (j*2))=some (.int .i64 t.1)∧w'.cell? ⟨(a.add (j*2)).block,(a.add (j*2)).off+1,none⟩=some (.int .i64 t.2))
  (first|exact SS5.out|exact SS4.out|(have hz:=HB5.out;clear hz;first|exact HC.out _ (HB5.out.alloc HB5.out.size _)|exact HC.out _ ((HB5.out.alloc HB5.out.size _).alloc qw _))|(have hz:=HB4.out;clear hz;first|exact HC.out _ (HB4.out.alloc HB4.out.size _)|exact HC.out _ ((HB4.out.alloc HB4.out.size _).alloc jC _))|(have hz:=HB5.out;clear hz;exact HCs.out _ _ _ HB5.out)|(have hz:=HB4.out;clear hz;exact HCs.out _ _ _ HB4.out)|exact SW.out|exact HC.out _ (qAe _ W).drew|exact HC.out _ (qAj W _).drew|exact HC.out _ ((qAj W _).alloc (by simp) _).drew)
  (first
    |(go_at_call 146
      with_reducible refine(TK.out _ _ _ _).mono ?_
      rintro e w4 ⟨rfl,hb4⟩
      have HB4:Hid (Below W.heap.size W w4):=qB
      have HR4:=qAZ hb4
      have hs4:=hb4.size
      try simp at hs4
      have HBk4:Hid (Blk w4 (w.heap.size+1) 161 #[.slice none 0 0,.slice none 0 0]):=qAc HRW.out HB4.out (by omega)
      have hra4:=HBk4.out.cell 0
      have hrb4:=HBk4.out.cell 1
      have hfa4:=HBk4.out.frozen 0
      have hfb4:=HBk4.out.frozen 1
      have SS4:=qAZ (HC.out _ HB4.out)
      clear hb4)
    |(go_at_call 147
      with_reducible refine(PU.out _ _ _ _ _ _ _).mono ?_
      rintro e w5 ⟨rfl,hb5⟩
      have HB5:Hid (Below W.heap.size W w5):=qH
      have HR5:=qAZ hb5
      have hs5:=hb5.size
      try simp at hs5
      have HBk5:Hid (Blk w5 (w.heap.size+1) 161 #[.slice none 0 0,.slice none 0 0]):=qAc HRW.out HB5.out (by omega)
      have hra5:=HBk5.out.cell 0
      have hrb5:=HBk5.out.cell 1
      have hfa5:=HBk5.out.frozen 0
      have hfb5:=HBk5.out.frozen 1
      have SS5:=qAZ (HC.out _ HB5.out)
      clear hb5))
 all_goals
  go_wp2_with fail
  refine bodyPost_ret (qBB rfl _ _ rfl (qBH hra5) (qBG hrb5)) rfl ⟨qA0 (HBW.out.trans (HB5.out.mono HBW.out.size)) (by omega),_,_,_,_,_,_,rfl,?_,?_⟩
  · exact zI
  · exact qBK (cs:= #[.int .i64 t.1,.int .i64 t.2]) (ts:=[t]) (by(repeat(first|((with_reducible refine qAm ?_);simp;done)|with_reducible refine qAd ?_|with_reducible refine qAy ?_|with_reducible refine qAq ?_ (by omega)|with_reducible refine qAc ?_ HR5.out qK|with_reducible refine qAc ?_ HR4.out qK|with_reducible exact HRW.out))) (by omega) rfl (qAx HTT.out (A64.nil)) rfl (by omega)
theorem qHH (K:Nat) (A:Option Addr) (n c:Nat) (ts:List Typ) (ia ib:Int) (w:World) (hK:K≤w.heap.size) (hl:ts.length=n) (hcap:n≤c) (hmx:c≤maxLen) (h:Sq typL (·<K) w A ts) (hia:I64 ia) (t:Typ) (j:Nat) (hj:ib=(j:Int)) (ht:ts[j]? =some t):Calls Tryz.prog 150 #[.slice A n c,.agg #[.int .i64 30,.int .i64 ia,.int .i64 ib]] w (Chgs K [(4,ia),t] [] w):=by
 have TK:=qAZ qA2
 have PU:=qAZ qA6
 have HTS:Hid (tysL.R (·<K) w [.slice A n c] ts):=⟨A,c,by rw[hl],by rw[hl];exact hcap,hmx,h⟩
 have HIA:Hid (I64 ((4,ia):Typ).1∧I64 ((4,ia):Typ).2):=⟨qAo (by omega) (by omega),hia⟩
 subst hj
 have hjn:(j:Int)<(n:Int):=by have:=(qAh.1 ht).1;omega
 have HTT:=qAZ (h.a64 t (qAk ht))
 obtain⟨a,cs,rfl,hab,hcl,hr⟩:=h.at ht
 obtain⟨rfl,-,-⟩:=hr
 have hn9:n≤9223372036854775807:=by unfold maxLen at hmx;omega
 clear hmx ht hl h
 go_enter Tryz.func150,Tryz.ntmps150
 go_wp2_with fail
 refine qAp fun W hW=> ?_
 have HBW:Hid (Below w.heap.size w W):=by show Below _ _ _;rw[hW];exact((qAj w _).alloc (by simp) _).alloc qG _
 have HI:Hid (Blk W w.heap.size 65 #[.int .i64 30,.int .i64 ia,.int .i64 (j:Int)]):=by show Blk _ _ _ _;rw[hW];exact qAd (qAd (qAz w _ _))
 have HRW:Hid (Blk W (w.heap.size+1) 161 #[.slice none 0 0,.slice none 0 0]):=by show Blk _ _ _ _;rw[hW];exact qAd (qAm (by simp))
 have HG:Hid (Blk W (w.heap.size+2) 58 #[.int .i64 4,.int .i64 ia]):=by show Blk _ _ _ _;rw[hW];exact qAm (by simp)
 have hsW:w.heap.size+3≤W.heap.size:=by rw[hW];simp
 clear hW
 have hc0:=(HBW.out.cell (p:=a.add (j*2)) qp).trans (hcl 0 _ rfl)
 have hc1:=(HBW.out.cell (p:=a.add (j*2+1)) qp).trans (hcl 1 _ rfl)
 rw[qAl a (j*2) 1 (by omega)] at hc1
 clear hcl
 have HL:Hid (∀w':World,(∀b,b<W.heap.size→b≠(w.heap.size+1)→w'.heap[b]? =W.heap[b]?)→w'.cell? ⟨w.heap.size+2,0,none⟩=some (.int .i64 4)∧w'.cell? ⟨w.heap.size+2,1,none⟩=some (.int .i64 ia)∧w'.cell? ⟨w.heap.size,2,none⟩=some (.int .i64 (j:Int))∧w'.cell? (a.add (j*2))=some (.int .i64 t.1)∧w'.cell? ⟨(a.add (j*2)).block,(a.add (j*2)).off+1,none⟩=some (.int .i64 t.2)):=fun w' hk=>⟨(qAb (hk _ zw qU)).trans (HG.out.cell 0),(qAb (hk _ zw qU)).trans (HG.out.cell 1),(qAb (hk _ qAK je)).trans (HI.out.cell 2),(qAb (hk _ qAV qAQ)).trans (hc0),(qAb (hk _ qAV qAQ)).trans (hc1)⟩
 have HC:Hid (∀w',Below W.heap.size W w'→w'.cell? ⟨w.heap.size+2,0,none⟩=some (.int .i64 4)∧w'.cell? ⟨w.heap.size+2,1,none⟩=some (.int .i64 ia)∧w'.cell? ⟨w.heap.size,2,none⟩=some (.int .i64 (j:Int))∧w'.cell? (a.add (j*2))=some (.int .i64 t.1)∧w'.cell? ⟨(a.add (j*2)).block,(a.add (j*2)).off+1,none⟩=some (.int .i64 t.2)):=fun w' hb=>HL.out w' fun b h1 _=>hb.block b h1
 have HCs:Hid (∀w' u v,Below W.heap.size W w'→((w'.setCell ⟨(w.heap.size+1),0,none⟩ u).setCell ⟨(w.heap.size+1),1,none⟩ v).cell? ⟨w.heap.size+2,0,none⟩=some (.int .i64 4)∧((w'.setCell ⟨(w.heap.size+1),0,none⟩ u).setCell ⟨(w.heap.size+1),1,none⟩ v).cell? ⟨w.heap.size+2,1,none⟩=some (.int .i64 ia)∧((w'.setCell ⟨(w.heap.size+1),0,none⟩ u).setCell ⟨(w.heap.size+1),1,none⟩ v).cell? ⟨w.heap.size,2,none⟩=some (.int .i64 (j:Int))∧((w'.setCell ⟨(w.heap.size+1),0,none⟩ u).setCell ⟨(w.heap.size+1),1,none⟩ v).cell? (a.add (j*2))=some (.int .i64 t.1)∧((w'.setCell ⟨(w.heap.size+1),0,none⟩ u).setCell ⟨(w.heap.size+1),1,none⟩ v).cell? ⟨(a.add (j*2)).block,(a.add (j*2)).off+1,none⟩=some (.int .i64 t.2)):=fun w' u v hb=>HL.out _ fun b h1 h2=>((qAi _ ⟨(w.heap.size+1),1,none⟩ v b h2).trans (qAi _ ⟨(w.heap.size+1),0,none⟩ u b h2)).trans (hb.block b h1)
 have SW:=qAZ (HC.out W (qAe _ _))
 go_wp2_with fail
 go_region_held3 (fun w'=>w'.cell? ⟨w.heap.size+2,0,none⟩=some (.int .i64 4)∧w'.cell? ⟨w.heap.size+2,1,none⟩=some (.int .i64 ia)∧w'.cell? ⟨w.heap.size,2,none⟩=some (.int .i64 (j:Int))∧w'.cell? (a.add (j*2))=some (.int .i64 t.1)∧w'.cell? ⟨(a.add (j*2)).block,(a.add (j*2)).off+1,none⟩=some (.int .i64 t.2))
  (first|exact SS4.out|(have hz:=HB4.out;clear hz;first|exact HC.out _ (HB4.out.alloc HB4.out.size _)|exact HC.out _ ((HB4.out.alloc HB4.out.size _).alloc qz _))|(have hz:=HB4.out;clear hz;exact HCs.out _ _ _ HB4.out)|exact SW.out|exact HC.out _ (qAe _ W).drew|exact HC.out _ (qAj W _).drew|exact HC.out _ ((qAj W _).alloc (by simp) _).drew)
  (first
    |(go_at_call 146
      with_reducible refine(TK.out _ _ _ _).mono ?_
      rintro e w4 ⟨rfl,hb4⟩
      have HB4:Hid (Below W.heap.size W w4):=qB
      have HR4:=qAZ hb4
      have hs4:=hb4.size
      try simp at hs4
      have HBk4:Hid (Blk w4 (w.heap.size+1) 161 #[.slice none 0 0,.slice none 0 0]):=qAc HRW.out HB4.out (by omega)
      have hra4:=HBk4.out.cell 0
      have hrb4:=HBk4.out.cell 1
      have hfa4:=HBk4.out.frozen 0
      have hfb4:=HBk4.out.frozen 1
      have SS4:=qAZ (HC.out _ HB4.out)
      clear hb4))
 all_goals
  go_wp2_with fail
  refine bodyPost_ret (qBB rfl _ _ rfl (qBH hra4) (qBG hrb4)) rfl ⟨qA0 (HBW.out.trans (HB4.out.mono HBW.out.size)) (by omega),_,_,_,_,_,_,rfl,?_,?_⟩
  · exact qBK (cs:= #[.int .i64 4,.int .i64 ia,.int .i64 t.1,.int .i64 t.2]) (ts:=[(4,ia),t]) (by(repeat(first|((with_reducible refine qAm ?_);simp;done)|with_reducible refine qAd ?_|with_reducible refine qAy ?_|with_reducible refine qAq ?_ (by omega)|with_reducible refine qAc ?_ HR4.out qK|with_reducible exact HRW.out))) (by omega) rfl (qAx HIA.out (qAx HTT.out (A64.nil))) rfl (by omega)
  · exact zp
theorem qID (A0 A1 A2 A3 A4 P0 P1 P2 D:Option Addr) (n0 n1 n2 n3 n4 d0 d1 d2 d3 d4 ua ul uc c0 c1 c2 k g:Nat) (x:Mod) (f:Fn) (ts:List Typ) (ia ib:Int) (w:World) (H:Cx w A0 A1 A2 A3 A4 P0 P1 P2 D n0 n1 n2 n3 n4 d0 d1 d2 d3 d4 ua ul uc c0 c1 c2 k g x f ts) (hia:I64 ia) (r:List Typ) (j:Nat) (hj:ia=(j:Int)) (hq:x.recs[j]? =some r):Calls Tryz.prog 117 #[.agg #[.slice A0 n0 d0,.slice A1 n1 d1,.slice A2 n2 d2,.slice A3 n3 d3,.slice A4 n4 d4],.agg #[.slice P0 ua c0,.int .i64 f.ret.1,.int .i64 f.ret.2,.slice P1 ul c1,.slice P2 uc c2],.agg #[.int .i64 28,.int .i64 ia,.int .i64 ib],.slice D k g] w (Chgs w.heap.size r [(4,ia)] w):=by
 have HH:=qAZ H
 have TK:=qAZ qA2
 have PU:=qAZ qA6
 have PL1:=qAZ (fun w=>qAw 1 w)
 clear H
 subst hj
 obtain⟨a,cs,ea,hab,hcl,hr⟩:=HH.out.s0.at hq
 subst ea
 obtain⟨P9,e9,rfl,hle9,hmx9,hsq9⟩:=hr
 have RC:Hid (∀v,Below w.heap.size w v→Calls Tryz.prog 150 #[.slice P9 r.length e9,.agg #[.int .i64 28,.int .i64 (j:Int),.int .i64 ib]] v (Chgs w.heap.size r [(4,(j:Int))] v)):=fun v hb=>qHJ w.heap.size P9 r.length e9 r (j:Int) ib v hb.size rfl hle9 hmx9 (hsq9.below hb (qAf _)) hia
 have hjn:(j:Int)<(n0:Int):=by have:=(qAh.1 hq).1;have:=HH.out.l0;omega
 have hqn:n0≤1000:=HH.out.b0
 clear hq hle9 hmx9 hsq9
 generalize r.length=qa at*
 go_enter Tryz.func117,Tryz.ntmps117
 go_upto_region 2 with(first
  |(go_at_call 145;(with_reducible refine(PL1.out _).mono ?_);rintro e w1 ⟨rfl,hb1⟩;have HR1:=qAZ hb1;have hs1:=hb1.size;simp at hs1;clear hb1))
 refine qAp fun W hW=> ?_
 have HBW:Hid (Below w.heap.size w W):=by show Below _ _ _;rw[hW];exact(((((qAj w _).alloc (by simp) _).alloc qG _).alloc qG _).trans (HR1.out.mono qG)).alloc (by omega) _
 have HM:Hid (Blk W w.heap.size 28 #[.slice (some a) n0 d0,.slice A1 n1 d1,.slice A2 n2 d2,.slice A3 n3 d3,.slice A4 n4 d4]):=by show Blk _ _ _ _;rw[hW];exact qAd (qAc (qAd (qAd (qAd (qAz w _ _)))) HR1.out qG)
 have HF:Hid (Blk W (w.heap.size+1) 61 #[.slice P0 ua c0,.int .i64 f.ret.1,.int .i64 f.ret.2,.slice P1 ul c1,.slice P2 uc c2]):=by show Blk _ _ _ _;rw[hW];exact qAd (qAc (qAd (qAd (qAm (by simp)))) HR1.out qG)
 have HI:Hid (Blk W (w.heap.size+2) 65 #[.int .i64 28,.int .i64 (j:Int),.int .i64 ib]):=by show Blk _ _ _ _;rw[hW];exact qAd (qAc (qAd (qAm (by simp))) HR1.out qG)
 have HRW:Hid (Blk W (w.heap.size+3) 161 #[.slice none 0 0,.slice none 0 0]):=by show Blk _ _ _ _;rw[hW];exact qAd (qAc (qAm (by simp)) HR1.out qG)
 have HG:Hid (Blk W w1.heap.size 58 #[.int .i64 1,.int .i64 0]):=by show Blk _ _ _ _;rw[hW];exact qAm rfl
 have hg1:w.heap.size+4≤w1.heap.size:=by omega
 have hsW:w1.heap.size+1≤W.heap.size:=by rw[hW];simp
 have hop:=HI.out.cell 0
 simp only[List.getElem?_toArray,List.getElem?_cons_zero] at hop
 clear hW
 have hc0:=(HBW.out.cell (p:=a.add j) qp).trans (qBC (K:=tysL.k) rfl (hcl 0 _ rfl))
 clear hcl
 have HL:Hid (∀w':World,(∀b,b<W.heap.size→b≠(w.heap.size+3)→w'.heap[b]? =W.heap[b]?)→w'.cell? ⟨w.heap.size,0,none⟩=some (.slice (some a) n0 d0)∧w'.cell? ⟨w.heap.size+2,0,none⟩=some (.int .i64 28)∧w'.cell? ⟨w.heap.size+2,1,none⟩=some (.int .i64 (j:Int))∧w'.cell? ⟨w.heap.size+2,2,none⟩=some (.int .i64 ib)∧w'.cell? (a.add j)=some (.slice P9 qa e9)):=fun w' hk=>⟨(qAb (hk _ qAK je)).trans (HM.out.cell 0),(qAb (hk _ zw qU)).trans (HI.out.cell 0),(qAb (hk _ zw qU)).trans (HI.out.cell 1),(qAb (hk _ zw qU)).trans (HI.out.cell 2),(qAb (hk _ qAT qAO)).trans (hc0)⟩
 have HC:Hid (∀w',Below W.heap.size W w'→w'.cell? ⟨w.heap.size,0,none⟩=some (.slice (some a) n0 d0)∧w'.cell? ⟨w.heap.size+2,0,none⟩=some (.int .i64 28)∧w'.cell? ⟨w.heap.size+2,1,none⟩=some (.int .i64 (j:Int))∧w'.cell? ⟨w.heap.size+2,2,none⟩=some (.int .i64 ib)∧w'.cell? (a.add j)=some (.slice P9 qa e9)):=fun w' hb=>HL.out w' fun b h1 _=>hb.block b h1
 have HCs:Hid (∀w' u v,Below W.heap.size W w'→((w'.setCell ⟨(w.heap.size+3),0,none⟩ u).setCell ⟨(w.heap.size+3),1,none⟩ v).cell? ⟨w.heap.size,0,none⟩=some (.slice (some a) n0 d0)∧((w'.setCell ⟨(w.heap.size+3),0,none⟩ u).setCell ⟨(w.heap.size+3),1,none⟩ v).cell? ⟨w.heap.size+2,0,none⟩=some (.int .i64 28)∧((w'.setCell ⟨(w.heap.size+3),0,none⟩ u).setCell ⟨(w.heap.size+3),1,none⟩ v).cell? ⟨w.heap.size+2,1,none⟩=some (.int .i64 (j:Int))∧((w'.setCell ⟨(w.heap.size+3),0,none⟩ u).setCell ⟨(w.heap.size+3),1,none⟩ v).cell? ⟨w.heap.size+2,2,none⟩=some (.int .i64 ib)∧((w'.setCell ⟨(w.heap.size+3),0,none⟩ u).setCell ⟨(w.heap.size+3),1,none⟩ v).cell? (a.add j)=some (.slice P9 qa e9)):=fun w' u v hb=>HL.out _ fun b h1 h2=>((qAi _ ⟨(w.heap.size+3),1,none⟩ v b h2).trans (qAi _ ⟨(w.heap.size+3),0,none⟩ u b h2)).trans (hb.block b h1)
 have SW:=qAZ (HC.out W (qAe _ _))
 go_wp2_with fail
 go_region_held3 (fun w'=>w'.cell? ⟨w.heap.size,0,none⟩=some (.slice (some a) n0 d0)∧w'.cell? ⟨w.heap.size+2,0,none⟩=some (.int .i64 28)∧w'.cell? ⟨w.heap.size+2,1,none⟩=some (.int .i64 (j:Int))∧w'.cell? ⟨w.heap.size+2,2,none⟩=some (.int .i64 ib)∧w'.cell? (a.add j)=some (.slice P9 qa e9))
  (first|exact SS4.out|(have hz:=HB4.out;clear hz;first|exact HC.out _ (HB4.out.alloc HB4.out.size _)|exact HC.out _ ((HB4.out.alloc HB4.out.size _).alloc qz _))|(have hz:=HB4.out;clear hz;exact HCs.out _ _ _ HB4.out)|exact SW.out|exact HC.out _ (qAe _ W).drew|exact HC.out _ (qAj W _).drew|exact HC.out _ ((qAj W _).alloc (by simp) _).drew)
  (first
    |(go_at_call 150
      refine(RC.out _ HBW.out.drew).mono ?_
      rintro e w4 ⟨hb4,A9,n9,c9,B9,m9,d9,rfl,h9,h8⟩
      have HX9:=qAZ h9
      have HX8:=qAZ h8
      clear h9 h8
      have HB4:Hid (Below W.heap.size W w4):=qB
      have HR4:=qAZ hb4
      have hs4:=hb4.size
      try simp at hs4
      have HBk4:Hid (Blk w4 (w.heap.size+3) 161 #[.slice none 0 0,.slice none 0 0]):=qAc HRW.out HB4.out (by omega)
      have hra4:=HBk4.out.cell 0
      have hrb4:=HBk4.out.cell 1
      have hfa4:=HBk4.out.frozen 0
      have hfb4:=HBk4.out.frozen 1
      have SS4:=qAZ (HC.out _ HB4.out)
      clear hb4))
 all_goals
  go_wp2_with fail
  refine bodyPost_ret (qBB rfl _ _ rfl (qBH hra4) (qBG hrb4)) rfl ⟨qA0 (HBW.out.trans (HB4.out.mono HBW.out.size)) (by omega),_,_,_,_,_,_,rfl,?_,?_⟩
  · exact qc
  · exact qk
theorem qIC (A0 A1 A2 A3 A4 P0 P1 P2 D:Option Addr) (n0 n1 n2 n3 n4 d0 d1 d2 d3 d4 ua ul uc c0 c1 c2 k g:Nat) (x:Mod) (f:Fn) (ts:List Typ) (ia ib:Int) (w:World) (H:Cx w A0 A1 A2 A3 A4 P0 P1 P2 D n0 n1 n2 n3 n4 d0 d1 d2 d3 d4 ua ul uc c0 c1 c2 k g x f ts) (hia:I64 ia) (r:List Typ) (j:Nat) (hj:ia=(j:Int)) (hq:x.recs[j]? =some r) (t:Typ) (l:Nat) (hl:ib=(l:Int)) (ht:r[l]? =some t):Calls Tryz.prog 117 #[.agg #[.slice A0 n0 d0,.slice A1 n1 d1,.slice A2 n2 d2,.slice A3 n3 d3,.slice A4 n4 d4],.agg #[.slice P0 ua c0,.int .i64 f.ret.1,.int .i64 f.ret.2,.slice P1 ul c1,.slice P2 uc c2],.agg #[.int .i64 29,.int .i64 ia,.int .i64 ib],.slice D k g] w (Chgs w.heap.size [(4,ia)] [t] w):=by
 have HH:=qAZ H
 have TK:=qAZ qA2
 have PU:=qAZ qA6
 have PL1:=qAZ (fun w=>qAw 1 w)
 clear H
 subst hj hl
 obtain⟨a,cs,ea,hab,hcl,hr⟩:=HH.out.s0.at hq
 subst ea
 obtain⟨P9,e9,rfl,hle9,hmx9,hsq9⟩:=hr
 have RC:Hid (∀v,Below w.heap.size w v→Calls Tryz.prog 150 #[.slice P9 r.length e9,.agg #[.int .i64 29,.int .i64 (j:Int),.int .i64 (l:Int)]] v (Chgs w.heap.size [(4,(j:Int))] [t] v)):=fun v hb=>qHI w.heap.size P9 r.length e9 r (j:Int) (l:Int) v hb.size rfl hle9 hmx9 (hsq9.below hb (qAf _)) hia t l rfl ht
 have hjn:(j:Int)<(n0:Int):=by have:=(qAh.1 hq).1;have:=HH.out.l0;omega
 have hqn:n0≤1000:=HH.out.b0
 clear hq hle9 hmx9 hsq9 ht
 generalize r.length=qa at*
 go_enter Tryz.func117,Tryz.ntmps117
 go_upto_region 2 with(first
  |(go_at_call 145;(with_reducible refine(PL1.out _).mono ?_);rintro e w1 ⟨rfl,hb1⟩;have HR1:=qAZ hb1;have hs1:=hb1.size;simp at hs1;clear hb1))
 refine qAp fun W hW=> ?_
 have HBW:Hid (Below w.heap.size w W):=by show Below _ _ _;rw[hW];exact(((((qAj w _).alloc (by simp) _).alloc qG _).alloc qG _).trans (HR1.out.mono qG)).alloc (by omega) _
 have HM:Hid (Blk W w.heap.size 28 #[.slice (some a) n0 d0,.slice A1 n1 d1,.slice A2 n2 d2,.slice A3 n3 d3,.slice A4 n4 d4]):=by show Blk _ _ _ _;rw[hW];exact qAd (qAc (qAd (qAd (qAd (qAz w _ _)))) HR1.out qG)
 have HF:Hid (Blk W (w.heap.size+1) 61 #[.slice P0 ua c0,.int .i64 f.ret.1,.int .i64 f.ret.2,.slice P1 ul c1,.slice P2 uc c2]):=by show Blk _ _ _ _;rw[hW];exact qAd (qAc (qAd (qAd (qAm (by simp)))) HR1.out qG)
 have HI:Hid (Blk W (w.heap.size+2) 65 #[.int .i64 29,.int .i64 (j:Int),.int .i64 (l:Int)]):=by show Blk _ _ _ _;rw[hW];exact qAd (qAc (qAd (qAm (by simp))) HR1.out qG)
 have HRW:Hid (Blk W (w.heap.size+3) 161 #[.slice none 0 0,.slice none 0 0]):=by show Blk _ _ _ _;rw[hW];exact qAd (qAc (qAm (by simp)) HR1.out qG)
 have HG:Hid (Blk W w1.heap.size 58 #[.int .i64 1,.int .i64 0]):=by show Blk _ _ _ _;rw[hW];exact qAm rfl
 have hg1:w.heap.size+4≤w1.heap.size:=by omega
 have hsW:w1.heap.size+1≤W.heap.size:=by rw[hW];simp
 have hop:=HI.out.cell 0
 simp only[List.getElem?_toArray,List.getElem?_cons_zero] at hop
 clear hW
 have hc0:=(HBW.out.cell (p:=a.add j) qp).trans (qBC (K:=tysL.k) rfl (hcl 0 _ rfl))
 clear hcl
 have HL:Hid (∀w':World,(∀b,b<W.heap.size→b≠(w.heap.size+3)→w'.heap[b]? =W.heap[b]?)→w'.cell? ⟨w.heap.size,0,none⟩=some (.slice (some a) n0 d0)∧w'.cell? ⟨w.heap.size+2,0,none⟩=some (.int .i64 29)∧w'.cell? ⟨w.heap.size+2,1,none⟩=some (.int .i64 (j:Int))∧w'.cell? ⟨w.heap.size+2,2,none⟩=some (.int .i64 (l:Int))∧w'.cell? (a.add j)=some (.slice P9 qa e9)):=fun w' hk=>⟨(qAb (hk _ qAK je)).trans (HM.out.cell 0),(qAb (hk _ zw qU)).trans (HI.out.cell 0),(qAb (hk _ zw qU)).trans (HI.out.cell 1),(qAb (hk _ zw qU)).trans (HI.out.cell 2),(qAb (hk _ qAT qAO)).trans (hc0)⟩
 have HC:Hid (∀w',Below W.heap.size W w'→w'.cell? ⟨w.heap.size,0,none⟩=some (.slice (some a) n0 d0)∧w'.cell? ⟨w.heap.size+2,0,none⟩=some (.int .i64 29)∧w'.cell? ⟨w.heap.size+2,1,none⟩=some (.int .i64 (j:Int))∧w'.cell? ⟨w.heap.size+2,2,none⟩=some (.int .i64 (l:Int))∧w'.cell? (a.add j)=some (.slice P9 qa e9)):=fun w' hb=>HL.out w' fun b h1 _=>hb.block b h1
 have HCs:Hid (∀w' u v,Below W.heap.size W w'→((w'.setCell ⟨(w.heap.size+3),0,none⟩ u).setCell ⟨(w.heap.size+3),1,none⟩ v).cell? ⟨w.heap.size,0,none⟩=some (.slice (some a) n0 d0)∧((w'.setCell ⟨(w.heap.size+3),0,none⟩ u).setCell ⟨(w.heap.size+3),1,none⟩ v).cell? ⟨w.heap.size+2,0,none⟩=some (.int .i64 29)∧((w'.setCell ⟨(w.heap.size+3),0,none⟩ u).setCell ⟨(w.heap.size+3),1,none⟩ v).cell? ⟨w.heap.size+2,1,none⟩=some (.int .i64 (j:Int))∧((w'.setCell ⟨(w.heap.size+3),0,none⟩ u).setCell ⟨(w.heap.size+3),1,none⟩ v).cell? ⟨w.heap.size+2,2,none⟩=some (.int .i64 (l:Int))∧((w'.setCell ⟨(w.heap.size+3),0,none⟩ u).setCell ⟨(w.heap.size+3),1,none⟩ v).cell? (a.add j)=some (.slice P9 qa e9)):=fun w' u v hb=>HL.out _ fun b h1 h2=>((qAi _ ⟨(w.heap.size+3),1,none⟩ v b h2).trans (qAi _ ⟨(w.heap.size+3),0,none⟩ u b h2)).trans (hb.block b h1)
 have SW:=qAZ (HC.out W (qAe _ _))
 go_wp2_with fail
 go_region_held3 (fun w'=>w'.cell? ⟨w.heap.size,0,none⟩=some (.slice (some a) n0 d0)∧w'.cell? ⟨w.heap.size+2,0,none⟩=some (.int .i64 29)∧w'.cell? ⟨w.heap.size+2,1,none⟩=some (.int .i64 (j:Int))∧w'.cell? ⟨w.heap.size+2,2,none⟩=some (.int .i64 (l:Int))∧w'.cell? (a.add j)=some (.slice P9 qa e9))
  (first|exact SS4.out|(have hz:=HB4.out;clear hz;first|exact HC.out _ (HB4.out.alloc HB4.out.size _)|exact HC.out _ ((HB4.out.alloc HB4.out.size _).alloc qz _))|(have hz:=HB4.out;clear hz;exact HCs.out _ _ _ HB4.out)|exact SW.out|exact HC.out _ (qAe _ W).drew|exact HC.out _ (qAj W _).drew|exact HC.out _ ((qAj W _).alloc (by simp) _).drew)
  (first
    |(go_at_call 150
      refine(RC.out _ HBW.out.drew).mono ?_
      rintro e w4 ⟨hb4,A9,n9,c9,B9,m9,d9,rfl,h9,h8⟩
      have HX9:=qAZ h9
      have HX8:=qAZ h8
      clear h9 h8
      have HB4:Hid (Below W.heap.size W w4):=qB
      have HR4:=qAZ hb4
      have hs4:=hb4.size
      try simp at hs4
      have HBk4:Hid (Blk w4 (w.heap.size+3) 161 #[.slice none 0 0,.slice none 0 0]):=qAc HRW.out HB4.out (by omega)
      have hra4:=HBk4.out.cell 0
      have hrb4:=HBk4.out.cell 1
      have hfa4:=HBk4.out.frozen 0
      have hfb4:=HBk4.out.frozen 1
      have SS4:=qAZ (HC.out _ HB4.out)
      clear hb4))
 all_goals
  go_wp2_with fail
  refine bodyPost_ret (qBB rfl _ _ rfl (qBH hra4) (qBG hrb4)) rfl ⟨qA0 (HBW.out.trans (HB4.out.mono HBW.out.size)) (by omega),_,_,_,_,_,_,rfl,?_,?_⟩
  · exact qc
  · exact qk
theorem qIB (A0 A1 A2 A3 A4 P0 P1 P2 D:Option Addr) (n0 n1 n2 n3 n4 d0 d1 d2 d3 d4 ua ul uc c0 c1 c2 k g:Nat) (x:Mod) (f:Fn) (ts:List Typ) (ia ib:Int) (w:World) (H:Cx w A0 A1 A2 A3 A4 P0 P1 P2 D n0 n1 n2 n3 n4 d0 d1 d2 d3 d4 ua ul uc c0 c1 c2 k g x f ts) (hia:I64 ia) (r:List Typ) (j:Nat) (hj:ia=(j:Int)) (hq:x.recs[j]? =some r) (t:Typ) (l:Nat) (hl:ib=(l:Int)) (ht:r[l]? =some t):Calls Tryz.prog 117 #[.agg #[.slice A0 n0 d0,.slice A1 n1 d1,.slice A2 n2 d2,.slice A3 n3 d3,.slice A4 n4 d4],.agg #[.slice P0 ua c0,.int .i64 f.ret.1,.int .i64 f.ret.2,.slice P1 ul c1,.slice P2 uc c2],.agg #[.int .i64 30,.int .i64 ia,.int .i64 ib],.slice D k g] w (Chgs w.heap.size [(4,ia),t] [] w):=by
 have HH:=qAZ H
 have TK:=qAZ qA2
 have PU:=qAZ qA6
 have PL1:=qAZ (fun w=>qAw 1 w)
 clear H
 subst hj hl
 obtain⟨a,cs,ea,hab,hcl,hr⟩:=HH.out.s0.at hq
 subst ea
 obtain⟨P9,e9,rfl,hle9,hmx9,hsq9⟩:=hr
 have RC:Hid (∀v,Below w.heap.size w v→Calls Tryz.prog 150 #[.slice P9 r.length e9,.agg #[.int .i64 30,.int .i64 (j:Int),.int .i64 (l:Int)]] v (Chgs w.heap.size [(4,(j:Int)),t] [] v)):=fun v hb=>qHH w.heap.size P9 r.length e9 r (j:Int) (l:Int) v hb.size rfl hle9 hmx9 (hsq9.below hb (qAf _)) hia t l rfl ht
 have hjn:(j:Int)<(n0:Int):=by have:=(qAh.1 hq).1;have:=HH.out.l0;omega
 have hqn:n0≤1000:=HH.out.b0
 clear hq hle9 hmx9 hsq9 ht
 generalize r.length=qa at*
 go_enter Tryz.func117,Tryz.ntmps117
 go_upto_region 2 with(first
  |(go_at_call 145;(with_reducible refine(PL1.out _).mono ?_);rintro e w1 ⟨rfl,hb1⟩;have HR1:=qAZ hb1;have hs1:=hb1.size;simp at hs1;clear hb1))
 refine qAp fun W hW=> ?_
 have HBW:Hid (Below w.heap.size w W):=by show Below _ _ _;rw[hW];exact(((((qAj w _).alloc (by simp) _).alloc qG _).alloc qG _).trans (HR1.out.mono qG)).alloc (by omega) _
 have HM:Hid (Blk W w.heap.size 28 #[.slice (some a) n0 d0,.slice A1 n1 d1,.slice A2 n2 d2,.slice A3 n3 d3,.slice A4 n4 d4]):=by show Blk _ _ _ _;rw[hW];exact qAd (qAc (qAd (qAd (qAd (qAz w _ _)))) HR1.out qG)
 have HF:Hid (Blk W (w.heap.size+1) 61 #[.slice P0 ua c0,.int .i64 f.ret.1,.int .i64 f.ret.2,.slice P1 ul c1,.slice P2 uc c2]):=by show Blk _ _ _ _;rw[hW];exact qAd (qAc (qAd (qAd (qAm (by simp)))) HR1.out qG)
 have HI:Hid (Blk W (w.heap.size+2) 65 #[.int .i64 30,.int .i64 (j:Int),.int .i64 (l:Int)]):=by show Blk _ _ _ _;rw[hW];exact qAd (qAc (qAd (qAm (by simp))) HR1.out qG)
 have HRW:Hid (Blk W (w.heap.size+3) 161 #[.slice none 0 0,.slice none 0 0]):=by show Blk _ _ _ _;rw[hW];exact qAd (qAc (qAm (by simp)) HR1.out qG)
 have HG:Hid (Blk W w1.heap.size 58 #[.int .i64 1,.int .i64 0]):=by show Blk _ _ _ _;rw[hW];exact qAm rfl
 have hg1:w.heap.size+4≤w1.heap.size:=by omega
 have hsW:w1.heap.size+1≤W.heap.size:=by rw[hW];simp
 have hop:=HI.out.cell 0
 simp only[List.getElem?_toArray,List.getElem?_cons_zero] at hop
 clear hW
 have hc0:=(HBW.out.cell (p:=a.add j) qp).trans (qBC (K:=tysL.k) rfl (hcl 0 _ rfl))
 clear hcl
 have HL:Hid (∀w':World,(∀b,b<W.heap.size→b≠(w.heap.size+3)→w'.heap[b]? =W.heap[b]?)→w'.cell? ⟨w.heap.size,0,none⟩=some (.slice (some a) n0 d0)∧w'.cell? ⟨w.heap.size+2,0,none⟩=some (.int .i64 30)∧w'.cell? ⟨w.heap.size+2,1,none⟩=some (.int .i64 (j:Int))∧w'.cell? ⟨w.heap.size+2,2,none⟩=some (.int .i64 (l:Int))∧w'.cell? (a.add j)=some (.slice P9 qa e9)):=fun w' hk=>⟨(qAb (hk _ qAK je)).trans (HM.out.cell 0),(qAb (hk _ zw qU)).trans (HI.out.cell 0),(qAb (hk _ zw qU)).trans (HI.out.cell 1),(qAb (hk _ zw qU)).trans (HI.out.cell 2),(qAb (hk _ qAT qAO)).trans (hc0)⟩
 have HC:Hid (∀w',Below W.heap.size W w'→w'.cell? ⟨w.heap.size,0,none⟩=some (.slice (some a) n0 d0)∧w'.cell? ⟨w.heap.size+2,0,none⟩=some (.int .i64 30)∧w'.cell? ⟨w.heap.size+2,1,none⟩=some (.int .i64 (j:Int))∧w'.cell? ⟨w.heap.size+2,2,none⟩=some (.int .i64 (l:Int))∧w'.cell? (a.add j)=some (.slice P9 qa e9)):=fun w' hb=>HL.out w' fun b h1 _=>hb.block b h1
 have HCs:Hid (∀w' u v,Below W.heap.size W w'→((w'.setCell ⟨(w.heap.size+3),0,none⟩ u).setCell ⟨(w.heap.size+3),1,none⟩ v).cell? ⟨w.heap.size,0,none⟩=some (.slice (some a) n0 d0)∧((w'.setCell ⟨(w.heap.size+3),0,none⟩ u).setCell ⟨(w.heap.size+3),1,none⟩ v).cell? ⟨w.heap.size+2,0,none⟩=some (.int .i64 30)∧((w'.setCell ⟨(w.heap.size+3),0,none⟩ u).setCell ⟨(w.heap.size+3),1,none⟩ v).cell? ⟨w.heap.size+2,1,none⟩=some (.int .i64 (j:Int))∧((w'.setCell ⟨(w.heap.size+3),0,none⟩ u).setCell ⟨(w.heap.size+3),1,none⟩ v).cell? ⟨w.heap.size+2,2,none⟩=some (.int .i64 (l:Int))∧((w'.setCell ⟨(w.heap.size+3),0,none⟩ u).setCell ⟨(w.heap.size+3),1,none⟩ v).cell? (a.add j)=some (.slice P9 qa e9)):=fun w' u v hb=>HL.out _ fun b h1 h2=>((qAi _ ⟨(w.heap.size+3),1,none⟩ v b h2).trans (qAi _ ⟨(w.heap.size+3),0,none⟩ u b h2)).trans (hb.block b h1)
 have SW:=qAZ (HC.out W (qAe _ _))
 go_wp2_with fail
 go_region_held3 (fun w'=>w'.cell? ⟨w.heap.size,0,none⟩=some (.slice (some a) n0 d0)∧w'.cell? ⟨w.heap.size+2,0,none⟩=some (.int .i64 30)∧w'.cell? ⟨w.heap.size+2,1,none⟩=some (.int .i64 (j:Int))∧w'.cell? ⟨w.heap.size+2,2,none⟩=some (.int .i64 (l:Int))∧w'.cell? (a.add j)=some (.slice P9 qa e9))
  (first|exact SS4.out|(have hz:=HB4.out;clear hz;first|exact HC.out _ (HB4.out.alloc HB4.out.size _)|exact HC.out _ ((HB4.out.alloc HB4.out.size _).alloc qz _))|(have hz:=HB4.out;clear hz;exact HCs.out _ _ _ HB4.out)|exact SW.out|exact HC.out _ (qAe _ W).drew|exact HC.out _ (qAj W _).drew|exact HC.out _ ((qAj W _).alloc (by simp) _).drew)
  (first
    |(go_at_call 150
      refine(RC.out _ HBW.out.drew).mono ?_
      rintro e w4 ⟨hb4,A9,n9,c9,B9,m9,d9,rfl,h9,h8⟩
      have HX9:=qAZ h9
      have HX8:=qAZ h8
      clear h9 h8
      have HB4:Hid (Below W.heap.size W w4):=qB
      have HR4:=qAZ hb4
      have hs4:=hb4.size
      try simp at hs4
      have HBk4:Hid (Blk w4 (w.heap.size+3) 161 #[.slice none 0 0,.slice none 0 0]):=qAc HRW.out HB4.out (by omega)
      have hra4:=HBk4.out.cell 0
      have hrb4:=HBk4.out.cell 1
      have hfa4:=HBk4.out.frozen 0
      have hfb4:=HBk4.out.frozen 1
      have SS4:=qAZ (HC.out _ HB4.out)
      clear hb4))
 all_goals
  go_wp2_with fail
  refine bodyPost_ret (qBB rfl _ _ rfl (qBH hra4) (qBG hrb4)) rfl ⟨qA0 (HBW.out.trans (HB4.out.mono HBW.out.size)) (by omega),_,_,_,_,_,_,rfl,?_,?_⟩
  · exact qc
  · exact qk
theorem qGt (A0 A1 A2 A3 A4 P0 P1 P2 D:Option Addr) (n0 n1 n2 n3 n4 d0 d1 d2 d3 d4 ua ul uc c0 c1 c2 k g:Nat) (x:Mod) (f:Fn) (ts:List Typ) (o ia ib:Int) (w:World) (H:Cx w A0 A1 A2 A3 A4 P0 P1 P2 D n0 n1 n2 n3 n4 d0 d1 d2 d3 d4 ua ul uc c0 c1 c2 k g x f ts) (hg:goodI o ia ib=true) (hn:namedB x f (o,ia,ib)=true):Calls Tryz.prog 117 #[.agg #[.slice A0 n0 d0,.slice A1 n1 d1,.slice A2 n2 d2,.slice A3 n3 d3,.slice A4 n4 d4],.agg #[.slice P0 ua c0,.int .i64 f.ret.1,.int .i64 f.ret.2,.slice P1 ul c1,.slice P2 uc c2],.agg #[.int .i64 o,.int .i64 ia,.int .i64 ib],.slice D k g] w (Chgs w.heap.size (chgB x f (o,ia,ib) ts).1 (chgB x f (o,ia,ib) ts).2 w):=by
 obtain⟨o1,j,l,rfl,rfl,rfl,ho,hj,hl,-,-,-⟩:=qBF hg
 have hia:I64 (j:Int):=⟨by omega,by omega⟩
 by_cases h0:o1=0
 · subst h0
   exact qJQ A0 A1 A2 A3 A4 P0 P1 P2 D n0 n1 n2 n3 n4 d0 d1 d2 d3 d4 ua ul uc c0 c1 c2 k g x f ts _ _ w H hia
 by_cases h1:o1=1
 · subst h1
   exact qJP A0 A1 A2 A3 A4 P0 P1 P2 D n0 n1 n2 n3 n4 d0 d1 d2 d3 d4 ua ul uc c0 c1 c2 k g x f ts _ _ w H hia
 by_cases h2:o1=2
 · subst h2
   exact qJO A0 A1 A2 A3 A4 P0 P1 P2 D n0 n1 n2 n3 n4 d0 d1 d2 d3 d4 ua ul uc c0 c1 c2 k g x f ts _ _ w H hia
 by_cases h3:o1=3
 · subst h3
   exact qJN A0 A1 A2 A3 A4 P0 P1 P2 D n0 n1 n2 n3 n4 d0 d1 d2 d3 d4 ua ul uc c0 c1 c2 k g x f ts _ _ w H hia
 by_cases h4:o1=4
 · subst h4
   exact qJM A0 A1 A2 A3 A4 P0 P1 P2 D n0 n1 n2 n3 n4 d0 d1 d2 d3 d4 ua ul uc c0 c1 c2 k g x f ts _ _ w H hia
 by_cases h5:o1=5
 · subst h5
   exact qJL A0 A1 A2 A3 A4 P0 P1 P2 D n0 n1 n2 n3 n4 d0 d1 d2 d3 d4 ua ul uc c0 c1 c2 k g x f ts _ _ w H hia
 by_cases h6:o1=6
 · subst h6
   exact qJK A0 A1 A2 A3 A4 P0 P1 P2 D n0 n1 n2 n3 n4 d0 d1 d2 d3 d4 ua ul uc c0 c1 c2 k g x f ts _ _ w H hia
 by_cases h7:o1=7
 · subst h7
   exact qJJ A0 A1 A2 A3 A4 P0 P1 P2 D n0 n1 n2 n3 n4 d0 d1 d2 d3 d4 ua ul uc c0 c1 c2 k g x f ts _ _ w H hia
 by_cases h22:o1=22
 · subst h22
   exact qIJ A0 A1 A2 A3 A4 P0 P1 P2 D n0 n1 n2 n3 n4 d0 d1 d2 d3 d4 ua ul uc c0 c1 c2 k g x f ts _ _ w H hia
 by_cases h23:o1=23
 · subst h23
   exact qII A0 A1 A2 A3 A4 P0 P1 P2 D n0 n1 n2 n3 n4 d0 d1 d2 d3 d4 ua ul uc c0 c1 c2 k g x f ts _ _ w H hia
 by_cases h24:o1=24
 · subst h24
   exact qIH A0 A1 A2 A3 A4 P0 P1 P2 D n0 n1 n2 n3 n4 d0 d1 d2 d3 d4 ua ul uc c0 c1 c2 k g x f ts _ _ w H hia
 by_cases h26:o1=26
 · subst h26
   exact qIF A0 A1 A2 A3 A4 P0 P1 P2 D n0 n1 n2 n3 n4 d0 d1 d2 d3 d4 ua ul uc c0 c1 c2 k g x f ts _ _ w H hia
 by_cases h39:o1=39
 · subst h39
   exact qH2 A0 A1 A2 A3 A4 P0 P1 P2 D n0 n1 n2 n3 n4 d0 d1 d2 d3 d4 ua ul uc c0 c1 c2 k g x f ts _ _ w H hia
 by_cases h40:o1=40
 · subst h40
   exact qH1 A0 A1 A2 A3 A4 P0 P1 P2 D n0 n1 n2 n3 n4 d0 d1 d2 d3 d4 ua ul uc c0 c1 c2 k g x f ts _ _ w H hia
 by_cases h41:o1=41
 · subst h41
   exact qH0 A0 A1 A2 A3 A4 P0 P1 P2 D n0 n1 n2 n3 n4 d0 d1 d2 d3 d4 ua ul uc c0 c1 c2 k g x f ts _ _ w H hia
 by_cases h31:o1=31
 · subst h31
   exact qIA A0 A1 A2 A3 A4 P0 P1 P2 D n0 n1 n2 n3 n4 d0 d1 d2 d3 d4 ua ul uc c0 c1 c2 k g x f ts _ _ w H hia
 by_cases h32:o1=32
 · subst h32
   exact qH9 A0 A1 A2 A3 A4 P0 P1 P2 D n0 n1 n2 n3 n4 d0 d1 d2 d3 d4 ua ul uc c0 c1 c2 k g x f ts _ _ w H hia
 by_cases h33:o1=33
 · subst h33
   exact qH8 A0 A1 A2 A3 A4 P0 P1 P2 D n0 n1 n2 n3 n4 d0 d1 d2 d3 d4 ua ul uc c0 c1 c2 k g x f ts _ _ w H hia
 by_cases h34:o1=34
 · subst h34
   exact qH7 A0 A1 A2 A3 A4 P0 P1 P2 D n0 n1 n2 n3 n4 d0 d1 d2 d3 d4 ua ul uc c0 c1 c2 k g x f ts _ _ w H hia
 by_cases h35:o1=35
 · subst h35
   exact qH6 A0 A1 A2 A3 A4 P0 P1 P2 D n0 n1 n2 n3 n4 d0 d1 d2 d3 d4 ua ul uc c0 c1 c2 k g x f ts _ _ w H hia
 by_cases h36:o1=36
 · subst h36
   exact qH5 A0 A1 A2 A3 A4 P0 P1 P2 D n0 n1 n2 n3 n4 d0 d1 d2 d3 d4 ua ul uc c0 c1 c2 k g x f ts _ _ w H hia
 by_cases h37:o1=37
 · subst h37
   exact qH4 A0 A1 A2 A3 A4 P0 P1 P2 D n0 n1 n2 n3 n4 d0 d1 d2 d3 d4 ua ul uc c0 c1 c2 k g x f ts _ _ w H hia
 by_cases h38:o1=38
 · subst h38
   exact qH3 A0 A1 A2 A3 A4 P0 P1 P2 D n0 n1 n2 n3 n4 d0 d1 d2 d3 d4 ua ul uc c0 c1 c2 k g x f ts _ _ w H hia
 by_cases h25:o1=25
 · subst h25
   simp[namedB] at hn
   obtain⟨q,hq⟩:∃q,x.funcs[j]? =some q:=⟨x.funcs[j]'(by omega),qAa _⟩
   have e:chgB x f ((25:Nat),(j:Int),(l:Int)) ts=(q.args,[q.ret]):=by simp[chgB,ruleB,hq]
   rw[e]
   exact qIG A0 A1 A2 A3 A4 P0 P1 P2 D n0 n1 n2 n3 n4 d0 d1 d2 d3 d4 ua ul uc c0 c1 c2 k g x f ts _ _ w H hia q j rfl hq
 by_cases h27:o1=27
 · subst h27
   simp[namedB] at hn
   obtain⟨q,hq⟩:∃q,x.imps[j]? =some q:=⟨x.imps[j]'(by omega),qAa _⟩
   have e:chgB x f ((27:Nat),(j:Int),(l:Int)) ts=(q.args,[q.ret]):=by simp[chgB,ruleB,hq]
   rw[e]
   exact qIE A0 A1 A2 A3 A4 P0 P1 P2 D n0 n1 n2 n3 n4 d0 d1 d2 d3 d4 ua ul uc c0 c1 c2 k g x f ts _ _ w H hia q j rfl hq
 by_cases h28:o1=28
 · subst h28
   simp[namedB] at hn
   obtain⟨r,hr⟩:∃r,x.recs[j]? =some r:=⟨x.recs[j]'(by omega),qAa _⟩
   have e:chgB x f ((28:Nat),(j:Int),(l:Int)) ts=(r,[(4,(j:Int))]):=by simp[chgB,ruleB,hr]
   rw[e]
   exact qID A0 A1 A2 A3 A4 P0 P1 P2 D n0 n1 n2 n3 n4 d0 d1 d2 d3 d4 ua ul uc c0 c1 c2 k g x f ts _ _ w H hia r j rfl hr
 by_cases h29:o1=29
 · subst h29
   simp[namedB] at hn
   cases hr:x.recs[j]? with
   |none=>rw[hr] at hn;simp at hn
   |some r=>
    rw[hr] at hn
    simp at hn
    obtain⟨t,ht⟩:∃t,r[l]? =some t:=⟨r[l]'(by omega),qAa _⟩
    have e:chgB x f ((29:Nat),(j:Int),(l:Int)) ts=([(4,(j:Int))],[t]):=by simp[chgB,ruleB,fldB,hr,ht]
    rw[e]
    exact qIC A0 A1 A2 A3 A4 P0 P1 P2 D n0 n1 n2 n3 n4 d0 d1 d2 d3 d4 ua ul uc c0 c1 c2 k g x f ts _ _ w H hia r j rfl hr t l rfl ht
 by_cases h30:o1=30
 · subst h30
   simp[namedB] at hn
   cases hr:x.recs[j]? with
   |none=>rw[hr] at hn;simp at hn
   |some r=>
    rw[hr] at hn
    simp at hn
    obtain⟨t,ht⟩:∃t,r[l]? =some t:=⟨r[l]'(by omega),qAa _⟩
    have e:chgB x f ((30:Nat),(j:Int),(l:Int)) ts=([(4,(j:Int)),t],[]):=by simp[chgB,ruleB,fldB,hr,ht]
    rw[e]
    exact qIB A0 A1 A2 A3 A4 P0 P1 P2 D n0 n1 n2 n3 n4 d0 d1 d2 d3 d4 ua ul uc c0 c1 c2 k g x f ts _ _ w H hia r j rfl hr t l rfl ht
 have e:chgB x f ((o1:Int),(j:Int),(l:Int)) ts=([(1,0),(1,0)],[(1,0)]):=by
  simp only[chgB,ruleB]
  repeat rw[if_neg (by omega)]
  rfl
 rw[e]
 exact qGs A0 A1 A2 A3 A4 P0 P1 P2 D n0 n1 n2 n3 n4 d0 d1 d2 d3 d4 ua ul uc c0 c1 c2 k g x f ts _ _ _ w H hia (by omega) (by omega)
end Go.Proofs.YtconajaecpgjgaaGreat
