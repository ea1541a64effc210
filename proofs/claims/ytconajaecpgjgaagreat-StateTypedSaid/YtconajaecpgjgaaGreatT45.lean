/-
Rri
-/
import Derived.Test.YtconajaecpgjgaaGreatT30
import Derived.Test.YtconajaecpgjgaaGreatT41
set_option linter.unusedSimpArgs false
set_option linter.unusedVariables false
set_option maxRecDepth 100000
set_option maxHeartbeats 8000000
namespace Go.Proofs.YtconajaecpgjgaaGreat
open Go.RowKit
theorem rule_7 (A0 A1 A2 A3 A4 P0 P1 P2 D:Option Addr) (n0 n1 n2 n3 n4 d0 d1 d2 d3 d4 ua ul uc c0 c1 c2 k g:Nat) (x:Mod) (f:Fn) (ts:List Typ) (j l:Nat) (w:World) (H:Cx w A0 A1 A2 A3 A4 P0 P1 P2 D n0 n1 n2 n3 n4 d0 d1 d2 d3 d4 ua ul uc c0 c1 c2 k g x f ts) (hj:j≤255) (hl:l≤255) (hk1:2≤k) (hkg:k≤g) (hg9:g≤9223372036854775807):Calls Tryz.prog 54 #[.agg #[.slice A0 n0 d0,.slice A1 n1 d1,.slice A2 n2 d2,.slice A3 n3 d3,.slice A4 n4 d4],.agg #[.slice P0 ua c0,.int .i64 f.ret.1,.int .i64 f.ret.2,.slice P1 ul c1,.slice P2 uc c2],.agg #[.int .i64 7,.int .i64 (j:Int),.int .i64 (l:Int)],.slice D k g] w (Ruled (ruleB x f (7,(j:Int),(l:Int)) ts) w):=by
 have HH:=qAZ H
 have HIA:Hid (I64 ((4,(j:Int)):Typ).1∧I64 ((4,(j:Int)):Typ).2):=⟨qAo (by omega) (by omega),qAo (by omega) (by omega)⟩
 clear H
 obtain⟨b,hb⟩:∃b,k=b+2:=⟨k-2,by omega⟩
 have HL:Hid (ts.length=b+2):=HH.out.hk.trans hb
 obtain⟨y,hy⟩:∃y,ts[b]? =some y:=⟨ts[b]'(by rw[HL.out];omega),qAa _⟩
 obtain⟨t,ht⟩:∃t,ts[b+1]? =some t:=⟨ts[b+1]'(by rw[HL.out];omega),qAa _⟩
 have HD:=qAZ (qJI HL.out hy ht)
 obtain⟨rs,hrs⟩:=rev_2 HL.out hy ht
 have HV:Hid (ruleB x f (7,(j:Int),(l:Int)) ts=some ([y,t],[t,y])):=by
  show ruleB _ _ _ _=_
  simp[ruleB,hrs]
 clear hrs
 obtain⟨a,cs,ea,hab,hcl,hr⟩:=HH.out.sk.at ht
 obtain⟨rfl,h641,h642⟩:=hr
 have H64:Hid (I64 t.1∧I64 t.2):=⟨h641,h642⟩
 clear h641 h642
 obtain⟨a2,cs2,ea2,-,hcl2,hr2⟩:=HH.out.sk.at hy
 obtain⟨rfl,h641,h642⟩:=hr2
 have H64y:Hid (I64 y.1∧I64 y.2):=⟨h641,h642⟩
 obtain rfl:a=a2:=Option.some.inj (ea.symm.trans ea2)
 clear h641 h642 ea2 hy
 obtain⟨c,hc⟩:∃c,b+1=c:=⟨_,rfl⟩
 rw[hc] at hcl ht
 subst ea
 have HSK:=qAZ HH.out.sk
 have hk9:k≤1000:=HH.out.b5
 have e1:(k:Int)-1=(c:Int):=by omega
 have e1b:(k:Int)-2=(b:Int):=by omega
 have e9:(c:Int)<(k:Int):=by omega
 have e2:b≤k:=by omega
 have e3:b≤g:=by omega
 have e4:(b:Int)≤(k:Int):=by omega
 have e5:(b:Int)≤(g:Int):=by omega
 have e6:k-b=2:=by omega
 have e7:(k:Int)≤(g:Int):=by omega
 have e8:(b:Int)<(k:Int):=by omega
 have hg:¬g=b:=by omega
 have hgc:2≤g-b:=by omega
 have hnl:¬((k:Int)<2):=by omega
 have e10:(0:Int)≤(b:Int):=by omega
 have e11:decide ((b:Int)<0)=false:=by simp
 have hw1:IntKind.i64.wrap ((k:Int)-1)=(c:Int):=by rw[qAv];omega
 have hw2:IntKind.i64.wrap ((k:Int)-2)=(b:Int):=by rw[qAv];omega
 have e12:(0:Int)≤(c:Int):=by omega
 have hw3:IntKind.i64.wrap (b:Int)=(b:Int):=by rw[qAv];omega
 have hw4:IntKind.i64.wrap (c:Int)=(c:Int):=by rw[qAv];omega
 clear ht hb hc
 obtain⟨rb,hrb⟩:∃r,ruleB x f (7,(j:Int),(l:Int)) ts=r:=⟨_,rfl⟩
 rw[hrb]
 have HRB:=qAZ hrb
 clear hrb
 go_enter Tryz.func54,Tryz.ntmps54
 go_upto_region 2 with(fail)
 refine qAp fun U hU=> ?_
 have HBU:Hid (Below w.heap.size w U):=by show Below _ _ _;rw[hU];exact((((qAj w _).alloc (by simp) _).alloc qG _).alloc qG _).alloc qG _
 have HMu:Hid (Blk U w.heap.size 28 #[.slice A0 n0 d0,.slice A1 n1 d1,.slice A2 n2 d2,.slice A3 n3 d3,.slice A4 n4 d4]):=by show Blk _ _ _ _;rw[hU];exact qAd (qAd (qAd (qAd (qAz w _ _))))
 have HFu:Hid (Blk U (w.heap.size+1) 61 #[.slice P0 ua c0,.int .i64 f.ret.1,.int .i64 f.ret.2,.slice P1 ul c1,.slice P2 uc c2]):=by show Blk _ _ _ _;rw[hU];exact qAd (qAd (qAd (qAm (by simp))))
 have HIu:Hid (Blk U (w.heap.size+2) 65 #[.int .i64 7,.int .i64 (j:Int),.int .i64 (l:Int)]):=by show Blk _ _ _ _;rw[hU];exact qAd (qAd (qAm (by simp)))
 have HNu:Hid (Blk U (w.heap.size+3) 58 #[.int .i64 1,.int .i64 0]∧Blk U (w.heap.size+4) 58 #[.int .i64 7,.int .i64 0]):=by show _∧_;rw[hU];exact⟨qAd (qAm (by simp)),qAm (by simp)⟩
 have hsU:w.heap.size+5≤U.heap.size:=by rw[hU];simp
 clear hU
 have hiu:=HIu.out.cell 1
 simp only[List.getElem?_toArray,List.getElem?_cons_succ,List.getElem?_cons_zero] at hiu
 go_cut [13,14,15] (fun s13 s14 s15 wx=>∃g1 g2 g3:Nat,s13= .pointer (some ⟨g1,0,none⟩)∧s14= .pointer (some ⟨g2,0,none⟩)∧s15= .pointer (some ⟨g3,0,none⟩)∧Blk wx g1 58 #[.int .i64 2,.int .i64 0]∧Blk wx g2 58 #[.int .i64 3,.int .i64 0]∧Blk wx g3 58 #[.int .i64 4,.int .i64 (j:Int)]∧Below U.heap.size U wx)
 case first=>
  exact qC
 case rest=>
  obtain⟨g1,g2,g3,rfl,rfl,rfl,hB1,hB2,hB3,hbx⟩:=hcut
  go_upto_region 3 with(fail)
  refine qAp fun W hW=> ?_
  rw[←hW] at hB1 hB2 hB3 hbx
  clear hW hiu
  have HX:Hid (Blk W g1 58 #[.int .i64 2,.int .i64 0]∧Blk W g2 58 #[.int .i64 3,.int .i64 0]∧Blk W g3 58 #[.int .i64 4,.int .i64 (j:Int)]):=⟨hB1,hB2,hB3⟩
  have hg1:=hB1.lt
  have hg2:=hB2.lt
  have hg3:=hB3.lt
  have HBW:Hid (Below w.heap.size w W):=HBU.out.trans (hbx.mono HBU.out.size)
  have HM:Hid (Blk W w.heap.size 28 #[.slice A0 n0 d0,.slice A1 n1 d1,.slice A2 n2 d2,.slice A3 n3 d3,.slice A4 n4 d4]):=qAc HMu.out hbx (by omega)
  have HF:Hid (Blk W (w.heap.size+1) 61 #[.slice P0 ua c0,.int .i64 f.ret.1,.int .i64 f.ret.2,.slice P1 ul c1,.slice P2 uc c2]):=qAc HFu.out hbx (by omega)
  have HI:Hid (Blk W (w.heap.size+2) 65 #[.int .i64 7,.int .i64 (j:Int),.int .i64 (l:Int)]):=qAc HIu.out hbx (by omega)
  have HN:Hid (Blk W (w.heap.size+3) 58 #[.int .i64 1,.int .i64 0]∧Blk W (w.heap.size+4) 58 #[.int .i64 7,.int .i64 0]):=⟨qAc HNu.out.1 hbx (by omega),qAc HNu.out.2 hbx (by omega)⟩
  have hsW:w.heap.size+5≤W.heap.size:=qBA hsU hbx.size
  have hop:=HI.out.cell 0
  simp only[List.getElem?_toArray,List.getElem?_cons_zero] at hop
  clear hB1 hB2 hB3 hbx HMu HFu HIu HNu HBU hsU
  have hc0:=(HBW.out.cell (p:=a.add (c*2)) qp).trans (hcl 0 _ rfl)
  have hc1:=(HBW.out.cell (p:=a.add (c*2+1)) qp).trans (hcl 1 _ rfl)
  rw[qAl a (c*2) 1 (by omega)] at hc1
  clear hcl
  have hd0:=(HBW.out.cell (p:=a.add (b*2)) qp).trans (hcl2 0 _ rfl)
  have hd1:=(HBW.out.cell (p:=a.add (b*2+1)) qp).trans (hcl2 1 _ rfl)
  rw[qAl a (b*2) 1 (by omega)] at hd1
  clear hcl2
  have HL:Hid (∀w':World,(∀b,b<W.heap.size→b≠W.heap.size→w'.heap[b]? =W.heap[b]?)→w'.cell? (a.add (c*2))=some (.int .i64 t.1)∧w'.cell? ⟨(a.add (c*2)).block,(a.add (c*2)).off+1,none⟩=some (.int .i64 t.2)∧w'.cell? (a.add (b*2))=some (.int .i64 y.1)∧w'.cell? ⟨(a.add (b*2)).block,(a.add (b*2)).off+1,none⟩=some (.int .i64 y.2)):=fun w' hk=>⟨(qAb (hk _ (by show(a.add (c*2)).block<_;rw[qA9];omega) (by show(a.add (c*2)).block≠_;rw[qA9];omega))).trans (hc0),(qAb (hk _ (by show(a.add (c*2)).block<_;rw[qA9];omega) (by show(a.add (c*2)).block≠_;rw[qA9];omega))).trans (hc1),(qAb (hk _ jG zY)).trans (hd0),(qAb (hk _ jG zY)).trans (hd1)⟩
  have HC:Hid (∀w',Below W.heap.size W w'→w'.cell? (a.add (c*2))=some (.int .i64 t.1)∧w'.cell? ⟨(a.add (c*2)).block,(a.add (c*2)).off+1,none⟩=some (.int .i64 t.2)∧w'.cell? (a.add (b*2))=some (.int .i64 y.1)∧w'.cell? ⟨(a.add (b*2)).block,(a.add (b*2)).off+1,none⟩=some (.int .i64 y.2)):=fun w' hb=>HL.out w' fun b h1 _=>hb.block b h1
  have HCs:Hid (∀w' u v,Below W.heap.size W w'→((w'.setCell ⟨W.heap.size,0,none⟩ u).setCell ⟨W.heap.size,1,none⟩ v).cell? (a.add (c*2))=some (.int .i64 t.1)∧((w'.setCell ⟨W.heap.size,0,none⟩ u).setCell ⟨W.heap.size,1,none⟩ v).cell? ⟨(a.add (c*2)).block,(a.add (c*2)).off+1,none⟩=some (.int .i64 t.2)∧((w'.setCell ⟨W.heap.size,0,none⟩ u).setCell ⟨W.heap.size,1,none⟩ v).cell? (a.add (b*2))=some (.int .i64 y.1)∧((w'.setCell ⟨W.heap.size,0,none⟩ u).setCell ⟨W.heap.size,1,none⟩ v).cell? ⟨(a.add (b*2)).block,(a.add (b*2)).off+1,none⟩=some (.int .i64 y.2)):=fun w' u v hb=>HL.out _ fun b h1 h2=>((qAi _ ⟨W.heap.size,1,none⟩ v b h2).trans (qAi _ ⟨W.heap.size,0,none⟩ u b h2)).trans (hb.block b h1)
  have SW:=qAZ (HC.out W (qAe _ _))
  obtain⟨z0,z1,z2,z3⟩:=SW.out
  go_wp2_with fail
  go_region_with (fail)
  all_goals
   go_wp2_with fail
   go_ret3
   refine⟨qA,.inr ⟨_,_,_,_,_,_,_,_,HRB.out.symm.trans HV.out,rfl,?_,?_⟩⟩
   · exact qIg HSK.out qA HD.out rfl hgc (by omega)
   · exact qBO (cs:= #[.int .i64 t.1,.int .i64 t.2,.int .i64 y.1,.int .i64 y.2]) (ts:=[t,y]) (by(repeat(first|((with_reducible refine qAm ?_);simp;done)|with_reducible refine qAd ?_|with_reducible refine qAy ?_))) rfl (qAx H64.out (qAx H64y.out (A64.nil))) rfl (by omega)
end Go.Proofs.YtconajaecpgjgaaGreat
