/-
Kgt Kgn Rt Ro Rn Lo Lftyp Lfins
-/
import Derived.Test.YtgdbhanhmenmfaaGreatQ01
import Derived.Test.YtgdbhanhmenmfaaGreatQ02
import Derived.Test.YtgdbhanhmenmfaaGreatQ03
import Derived.Test.YtgdbhanhmenmfaaGreatQ05
import Derived.Test.YtgdbhanhmenmfaaGreatQ09
import Derived.Test.YtgdbhanhmenmfaaGreatQ16
import Derived.Test.YtgdbhanhmenmfaaGreatQ17
import Derived.Deep.RegionHeld3
import Derived.Laws.Strings
import Derived.Shelf.Bytes.SlEqualAll
import Derived.Maps.AppendAt
set_option linter.unusedSimpArgs false
set_option linter.unusedVariables false
set_option maxRecDepth 100000
set_option maxHeartbeats 2000000
namespace Go.Proofs.YtgdbhanhmenmfaaGreat
open Go.RowKit
variable {w:World}
theorem qJ {P:Prop} (h:P:=by
 go_enter Tryz.func266,Tryz.ntmps266
 go_wp2_with (first
  |(go_at_call 130
    obtain⟨A2,c2,hk2,-⟩:=HG2.out;refine(qBq g _ _ _ hk2).mono ?_;rintro e w3 ⟨rfl,rfl⟩;clear hk2)
  |(go_at_call 185
    have hp:=HG1.out;clear hp;refine(qB1 g (xs.drop n) b m _ HG1.out Hbd.out H2.out Hl.out).mono ?_;rintro e w2 ⟨rfl,hg2,ho2⟩;rw[←HE.out] at hg2;have HG2:=qBK hg2;have hr2:=qBp ho2 HR1.out hgw;have HR2:=qBK hr2;have r0:=hr2.cell 0;have r1:=hr2.cell 1;have f0:=hr2.frozen 0;have f1:=hr2.frozen 1;have rlt:=hr2.lt;simp at r0 r1;have HO2:=qBK (qBb HO1.out ho2);clear hg2 ho2 hr2)
  |(go_at_call 185
    refine(qB1 g xs a n _ (HG.out.alloc _) Hb.out H1.out hl).mono ?_;rintro e w1 ⟨rfl,hg1,ho1⟩;have HG1:=qBK hg1;have HR1:=qBK (qBp ho1 (qCT _ _ _) hgw);have HO1:=qBK (qBb (qBh _) ho1);clear hg1 ho1))
 refine bodyPost_ret (v:= .tuple #[.agg #[.int .i64 0,.int .i64 0],.bool false]) (by simp[results,Tryz.results266,go_sem,r0,r1]) rfl ⟨rfl,HG2.out.keep fun i hi=> ?_,qBg HO2.out (((qBO _ _).setCell ?_ _).setCell ?_ _)⟩
 · rw[qBP,qBP]<;>(simp;omega)
 all_goals simp):P:=h
theorem qL {P:Prop} (h:P:=by
 obtain rfl:k=n:=by omega
 go_wp2_with fail
 go_ret;refine⟨HY.out,_,xs,rfl,HO.out,HX.out,?_⟩;rcases HU.out with⟨h1,zs,rest,h2,h3,rfl⟩|⟨rfl,h1⟩
 · exact .inl ⟨h1,zs,rest,h2,h3,HT.out⟩
 · exact .inr ⟨HT.out,h1⟩):P:=h
theorem qb {P:Prop} (h:P:=by
 have hF:Below w.heap.size w2 ((w2.setCell ⟨w.heap.size,0,none⟩ (.int .i64 0)).setCell ⟨w.heap.size,1,none⟩ (.int .i64 0)):=
  ((qBO _ _).setCell (p:=⟨w.heap.size,0,none⟩) (qBL _) _).setCell (p:=⟨w.heap.size,1,none⟩) (qBL _) _
 refine bodyPost_ret (v:= .agg #[.int .i64 0,.int .i64 0]) (by simp[results,Tryz.results242,go_sem,q0,q1]) rfl ?_;exact⟨qBg HO2.out hF,_,(0,0),rfl,⟨rfl,qD0,qD0⟩,.inr ⟨HB2.out.below hF hg,HNO.out⟩⟩):P:=h
theorem zH {P:Prop} (h:P:=by simp[results,Tryz.results266,go_sem,r0,r1]):P:=h
def TwoVars (xs:List Nat) (a b:Nat) (rest:List Nat):Prop:=∃n m,IsVar xs a n∧IsVar (xs.drop n) b m∧rest=(xs.drop n).drop m
theorem qIk (g:Nat) (xs rest:List Nat) (a b:Nat) (r:Int) (w:World) (h:Good w g xs) (hb:∀x∈xs,x<256) (hl:xs.length≤140737488355328) (ht:TwoVars xs a b rest):
 Calls Tryz.prog 266 #[.pointer (some ⟨g,0,none⟩),.int .i64 r] w fun e w'=>
  e= .returned (if a≤8∧b≤255∧goodB a b r=true then .tuple #[.agg #[.int .i64 (a:Nat),.int .i64 (b:Nat)],.bool true] else .tuple #[.agg #[.int .i64 0,.int .i64 0],.bool false])∧Good w' g rest∧Only g w w':=by
 obtain⟨n,m,h1,h2,hrest⟩:=ht;have HE:=qBK hrest;clear hrest;have hg:=h.lt;have HG:=qBK h;have Hb:=qBK hb;have H1:=qBK h1;have H2:=qBK h2;refine qA7 ?_;intro Hl Hbd;clear h hb h1 h2;refine qAg ?_;intro hgw;have KG:=qBK (fun w=>kgood a b r w)
 by_cases ha:a≤8
 · have e8:decide (8<a)=false:=by simp;omega
   by_cases hb2:b≤255
   · have e255:decide (255<b)=false:=by simp;omega
     cases hgd:goodB a b r
     · rw[if_neg (by simp)]
       rw[hgd] at KG;clear hgd
       go_enter Tryz.func266,Tryz.ntmps266
       go_wp2_with (first
        |(go_at_call 165
          refine(KG.out _).mono ?_;rintro e w3 ⟨rfl,hb3⟩;refine qA6 ?_;intro HB3 hr3 q0 q1 p0 p1;simp at q0 q1;clear hr3;obtain⟨hc3,hf3⟩:=qCU hb3;have hs3:w2.heap.size<w3.heap.size:=(by have:=hb3.size;simp at this;omega);clear hb3)
        |(go_at_call 130
          obtain⟨A2,c2,hk2,-⟩:=HG2.out;refine(qBq g _ _ _ hk2).mono ?_;rintro e w3 ⟨rfl,rfl⟩;clear hk2)
        |(go_at_call 185
          have hp:=HG1.out;clear hp;refine(qB1 g (xs.drop n) b m _ HG1.out Hbd.out H2.out Hl.out).mono ?_;rintro e w2 ⟨rfl,hg2,ho2⟩;rw[←HE.out] at hg2;have HG2:=qBK hg2;have hr2:=qBp ho2 HR1.out hgw;refine j8 ?_;intro HR2 r0 r1 f0 f1 rlt;simp at r0 r1;have HO2:=qBK (qBb HO1.out ho2);clear hg2 ho2 hr2)
        |(go_at_call 185
          refine(qB1 g xs a n _ (HG.out.alloc _) Hb.out H1.out hl).mono ?_;rintro e w1 ⟨rfl,hg1,ho1⟩;have HG1:=qBK hg1;have HR1:=qBK (qBp ho1 (qCT _ _ _) hgw);have HO1:=qBK (qBb (qBh _) ho1);clear hg1 ho1))
       refine bodyPost_ret (v:= .tuple #[.agg #[.int .i64 0,.int .i64 0],.bool false]) (by simp[results,Tryz.results266,go_sem,q0,q1]) rfl ⟨rfl,((HG2.out.alloc _).below HB3.out qK).keep fun i hi=> ?_,qBg HO2.out (((((qBO _ _).alloc (by omega) _).trans (HB3.out.mono qK)).setCell ?_ _).setCell ?_ _)⟩
       · rw[qBP,qBP]<;>(simp;omega)
       all_goals simp
     · rw[if_pos ⟨ha,hb2,rfl⟩]
       rw[hgd] at KG;clear hgd
       go_enter Tryz.func266,Tryz.ntmps266
       go_wp2_with (first
        |(go_at_call 165
          refine(KG.out _).mono ?_;rintro e w3 ⟨rfl,hb3⟩;refine qA6 ?_;intro HB3 hr3 q0 q1 p0 p1;simp at q0 q1;clear hr3;obtain⟨hc3,hf3⟩:=qCU hb3;have hs3:w2.heap.size<w3.heap.size:=(by have:=hb3.size;simp at this;omega);clear hb3)
        |(go_at_call 130
          obtain⟨A2,c2,hk2,-⟩:=HG2.out;refine(qBq g _ _ _ hk2).mono ?_;rintro e w3 ⟨rfl,rfl⟩;clear hk2)
        |(go_at_call 185
          have hp:=HG1.out;clear hp;refine(qB1 g (xs.drop n) b m _ HG1.out Hbd.out H2.out Hl.out).mono ?_;rintro e w2 ⟨rfl,hg2,ho2⟩;rw[←HE.out] at hg2;have HG2:=qBK hg2;have hr2:=qBp ho2 HR1.out hgw;refine j8 ?_;intro HR2 r0 r1 f0 f1 rlt;simp at r0 r1;have HO2:=qBK (qBb HO1.out ho2);clear hg2 ho2 hr2)
        |(go_at_call 185
          refine(qB1 g xs a n _ (HG.out.alloc _) Hb.out H1.out hl).mono ?_;rintro e w1 ⟨rfl,hg1,ho1⟩;have HG1:=qBK hg1;have HR1:=qBK (qBp ho1 (qCT _ _ _) hgw);have HO1:=qBK (qBb (qBh _) ho1);clear hg1 ho1))
       refine bodyPost_ret (v:= .tuple #[.agg #[.int .i64 (a:Nat),.int .i64 (b:Nat)],.bool true]) (by simp[results,Tryz.results266,go_sem,q0,q1]) rfl ⟨rfl,((HG2.out.alloc _).below HB3.out qK).keep fun i hi=> ?_,qBg HO2.out (((((qBO _ _).alloc (by omega) _).trans (HB3.out.mono qK)).setCell ?_ _).setCell ?_ _)⟩
       · rw[qBP,qBP]<;>(simp;omega)
       all_goals simp
   · rw[if_neg (by omega)]
     have e255:decide (255<b)=true:=by simp;omega
     exact qJ
 · rw[if_neg (by omega)]
   have e8:decide (8<a)=true:=by simp;omega
   exact qJ
theorem qNq (g:Nat)  (r:Int) (w:World) (h:Bad w g):
 Calls Tryz.prog 266 #[.pointer (some ⟨g,0,none⟩),.int .i64 r] w fun e w'=>e= .returned (.tuple #[.agg #[.int .i64 0,.int .i64 0],.bool false])∧Bad w' g∧Only g w w':=by
 have hg:=h.lt;have HG:=qBK h;clear h;refine qAg ?_;intro hgw
 go_enter Tryz.func266,Tryz.ntmps266
 go_wp2_with (first
  |(go_at_call 130
    refine(qBq g _ _ _ HG2.out).mono ?_;rintro e w3 ⟨rfl,rfl⟩)
  |(go_at_call 185
    have hp:=HG1.out;clear hp;refine(qC3 g _ HG1.out).mono ?_;rintro e w2 ⟨rfl,rfl⟩;have HG2:=qBK (HG1.out);have hr2:=HR1.out;have HO2:=HO1;refine j8 ?_;intro HR2 r0 r1 f0 f1 rlt;simp at r0 r1;clear hr2)
  |(go_at_call 185
    refine(qC3 g _ (HG.out.alloc _)).mono ?_;rintro e w1 ⟨rfl,rfl⟩;have HG1:=qBK (HG.out.alloc (.cells #[.int .i64 0,.int .i64 0] 61));have hr1:Blk (w.alloc (.cells #[.int .i64 0,.int .i64 0] 61)) w.heap.size 61 #[.int .i64 0,.int .i64 0]:=qCT _ _ _;have HR1:=qBK hr1;have HO1:Hid (Only g w (w.alloc (.cells #[.int .i64 0,.int .i64 0] 61))):=qBh _;clear hr1))
 first
  |exact bodyPost_ret (v:= .tuple #[.agg #[.int .i64 0,.int .i64 0],.bool false]) zH rfl ⟨rfl,HG2.out,HO2.out⟩
  |(refine bodyPost_ret (v:= .tuple #[.agg #[.int .i64 0,.int .i64 0],.bool false]) zH rfl ⟨rfl,qB7 (qB7 HG2.out _ (by omega)) _ (by omega),qBg HO2.out (((qBO _ _).setCell ?_ _).setCell ?_ _)⟩
    all_goals simp)
theorem qNp (g:Nat) (xs:List Nat) (r:Int) (w:World) (h:Good w g xs) (hb:∀x∈xs,x<256) (hl:xs.length≤140737488355328) (hn:¬∃v n,IsVar xs v n):
 Calls Tryz.prog 266 #[.pointer (some ⟨g,0,none⟩),.int .i64 r] w fun e w'=>e= .returned (.tuple #[.agg #[.int .i64 0,.int .i64 0],.bool false])∧Bad w' g∧Only g w w':=by
 have hg:=h.lt;have HG:=qBK h;have Hb:=qBK hb;have Hn:=qBK hn;clear h hb hn;refine qAg ?_;intro hgw
 go_enter Tryz.func266,Tryz.ntmps266
 go_wp2_with (first
  |(go_at_call 130
    refine(qBq g _ _ _ HG2.out).mono ?_;rintro e w3 ⟨rfl,rfl⟩)
  |(go_at_call 185
    have hp:=HG1.out;clear hp;refine(qC3 g _ HG1.out).mono ?_;rintro e w2 ⟨rfl,rfl⟩;have HG2:=qBK (HG1.out);have hr2:=HR1.out;have HO2:=HO1;refine j8 ?_;intro HR2 r0 r1 f0 f1 rlt;simp at r0 r1;clear hr2)
  |(go_at_call 185
    refine(qDE g xs _ (HG.out.alloc _) Hb.out Hn.out hl).mono ?_;rintro e w1 ⟨rfl,hg1,ho1⟩;have HG1:=qBK hg1;have hr1:=qBp ho1 (qCT _ _ _) hgw;have HO1:=qBK (qBb (qBh _) ho1);clear hg1 ho1;have HR1:=qBK hr1;clear hr1))
 first
  |exact bodyPost_ret (v:= .tuple #[.agg #[.int .i64 0,.int .i64 0],.bool false]) zH rfl ⟨rfl,HG2.out,HO2.out⟩
  |(refine bodyPost_ret (v:= .tuple #[.agg #[.int .i64 0,.int .i64 0],.bool false]) zH rfl ⟨rfl,qB7 (qB7 HG2.out _ (by omega)) _ (by omega),qBg HO2.out (((qBO _ _).setCell ?_ _).setCell ?_ _)⟩
    all_goals simp)
theorem qNo (g:Nat) (xs:List Nat) (a n:Nat) (r:Int) (w:World) (h:Good w g xs) (hb:∀x∈xs,x<256) (hl:xs.length≤140737488355328) (h1:IsVar xs a n) (hn:¬∃v n',IsVar (xs.drop n) v n'):
 Calls Tryz.prog 266 #[.pointer (some ⟨g,0,none⟩),.int .i64 r] w fun e w'=>e= .returned (.tuple #[.agg #[.int .i64 0,.int .i64 0],.bool false])∧Bad w' g∧Only g w w':=by
 have hg:=h.lt;have HG:=qBK h;have Hb:=qBK hb;have H1:=qBK h1;have Hn:=qBK hn;refine qA7 ?_;intro Hl Hbd;clear h hb hn h1;refine qAg ?_;intro hgw
 go_enter Tryz.func266,Tryz.ntmps266
 go_wp2_with (first
  |(go_at_call 130
    refine(qBq g _ _ _ HG2.out).mono ?_;rintro e w3 ⟨rfl,rfl⟩)
  |(go_at_call 185
    have hp:=HG1.out;clear hp;refine(qDE g (xs.drop n) _ HG1.out Hbd.out Hn.out Hl.out).mono ?_;rintro e w2 ⟨rfl,hg2,ho2⟩;have HG2:=qBK hg2;have hr2:=qBp ho2 HR1.out hgw;have HO2:=qBK (qBb HO1.out ho2);clear hg2 ho2;refine j8 ?_;intro HR2 r0 r1 f0 f1 rlt;simp at r0 r1;clear hr2)
  |(go_at_call 185
    refine(qB1 g xs a n _ (HG.out.alloc _) Hb.out H1.out hl).mono ?_;rintro e w1 ⟨rfl,hg1,ho1⟩;have HG1:=qBK hg1;have hr1:=qBp ho1 (qCT _ _ _) hgw;have HO1:=qBK (qBb (qBh _) ho1);clear hg1 ho1;have HR1:=qBK hr1;clear hr1))
 first
  |exact bodyPost_ret (v:= .tuple #[.agg #[.int .i64 0,.int .i64 0],.bool false]) zH rfl ⟨rfl,HG2.out,HO2.out⟩
  |(refine bodyPost_ret (v:= .tuple #[.agg #[.int .i64 0,.int .i64 0],.bool false]) zH rfl ⟨rfl,qB7 (qB7 HG2.out _ (by omega)) _ (by omega),qBg HO2.out (((qBO _ _).setCell ?_ _).setCell ?_ _)⟩
    all_goals simp)
theorem qD0:I64 0:=by unfold I64;omega
theorem qNm (g:Nat) (t:Typ) (rest:List Nat) (r:Int) (hr:r≤8) (w:World) (hs:St w g (some (tB t++rest))) (hg:goodT r t=true):
 Calls Tryz.prog 266 #[.pointer (some ⟨g,0,none⟩),.int .i64 r] w fun e w'=>e= .returned (.tuple #[.agg #[.int .i64 t.1,.int .i64 t.2],.bool true])∧St w' g (some rest)∧Only g w w':=by
 obtain⟨a,b,rfl,ha,hb⟩:=qDQ hr hg;have ht:TwoVars (tB ((a:Int),(b:Int))++rest) a b rest:=by
  refine⟨(vb a).length,(vb b).length,?_,?_,?_⟩
  · simp only[tB,typB,Int.toNat_natCast,List.append_assoc]
    exact qCB a qj _
  · simp only[tB,typB,Int.toNat_natCast,List.append_assoc,List.drop_left]
    exact qCB b qj _
  · simp only[tB,typB,Int.toNat_natCast,List.append_assoc,List.drop_left]
 refine(qIk g _ rest a b r w hs.1 hs.2.1 (by have:=hs.2.2;omega) ht).mono ?_;rintro e w' ⟨rfl,h1,h2⟩;rw[if_pos ⟨ha,hb,hg⟩];exact⟨rfl,hs.rest rfl h1,h2⟩
theorem qNn (g:Nat) (r:Int) (hr:r≤8) (s:Option (List Nat)) (w:World) (hs:St w g s) (hno:∀xs,s=some xs→¬Has tB (fun t=>goodT r t=true) xs):
 Calls Tryz.prog 266 #[.pointer (some ⟨g,0,none⟩),.int .i64 r] w fun e w'=>e= .returned (.tuple #[.agg #[.int .i64 0,.int .i64 0],.bool false])∧Rdy w' g∧Only g w w':=by
 cases s with
 |none=>exact(qNq g r w hs).mono fun e w' ⟨h1,h2,h3⟩=>⟨h1,.inr h2,h3⟩
 |some xs=>
  have hl:xs.length≤140737488355328:=by have:=hs.2.2;omega
  by_cases h1:∃v n,IsVar xs v n
  · obtain⟨a,n,h1⟩:=h1
    by_cases h2:∃v n',IsVar (xs.drop n) v n'
    · obtain⟨b,m,h2⟩:=h2
      refine(qIk g xs ((xs.drop n).drop m) a b r w hs.1 hs.2.1 hl ⟨n,m,h1,h2,rfl⟩).mono ?_;rintro e w' ⟨rfl,g1,g2⟩;rw[if_neg]
      · exact⟨rfl,.inl ⟨_,g1⟩,g2⟩
      · rintro⟨_,_,hg⟩
        refine hno xs rfl ⟨((a:Int),(b:Int)),(xs.drop n).drop m,hg,?_⟩;have e1:=qCM h1;have e2:=qCM h2;simp only[tB,typB,Int.toNat_natCast,List.append_assoc];rw[←e2];exact e1
    · exact(qNo g xs a n r w hs.1 hs.2.1 hl h1 h2).mono fun e w' ⟨h1,h2,h3⟩=>⟨h1,.inr h2,h3⟩
  · exact(qNp g xs r w hs.1 hs.2.1 hl h1).mono fun e w' ⟨h1,h2,h3⟩=>⟨h1,.inr h2,h3⟩
theorem qN5 (g:Nat) (s:Option (List Nat)) (w:World) (hs:St w g s) (hno:∀xs,s=some xs→¬Has iB (fun t=>goodIn t=true) xs):
 Calls Tryz.prog 267 #[.pointer (some ⟨g,0,none⟩)] w fun e w'=>e= .returned (insV 0 0 0 false)∧Rdy w' g∧Only g w w':=by
 cases s with
 |none=>exact(qN6 g w hs).mono fun e w' ⟨h1,h2,h3⟩=>⟨h1,.inr h3,h2⟩
 |some xs=>exact(qL1 g xs w hs.1 hs.2.1 hs.2.2 (fun⟨o,x,y,rest,hg,e⟩=>hno xs rfl ⟨((o:Int),(x:Int),(y:Int)),rest,hg,e⟩)).mono fun e w' ⟨h1,h2,h3⟩=>⟨h1,h3,h2⟩
theorem iget_is (g:Nat) (t:Ins) (rest:List Nat) (w:World) (hs:St w g (some (iB t++rest))) (hg:goodIn t=true):
 Calls Tryz.prog 267 #[.pointer (some ⟨g,0,none⟩)] w fun e w'=>e= .returned (insV t.1 t.2.1 t.2.2 true)∧St w' g (some rest)∧Only g w w':=by
 obtain⟨o,a,b⟩:=t;obtain⟨o1,a1,b1,e1,e2,e3,_⟩:=qBm (op:=o) (a:=a) (b:=b) hg;subst e1 e2 e3;have hr:St w g (some rest)→True:=fun _=>trivial;refine(qN4 g o1 a1 b1 rest w hg hs.1 (fun z hz=>hs.2.1 z (by simp[hz])) (by have:=hs.2.2;simp at this;omega)).mono ?_;rintro e w' ⟨rfl,h1,h2⟩;exact⟨rfl,hs.rest rfl h1,h2⟩
theorem qDl (rb g:Nat) (v0 v1 v2 v3 v4:Value) (r:Int) (s:Option (List Nat)) (w:World) (h:Mrd w rb g v0 v1 v2 v3 v4 r) (hs:St w g s):
 Calls Tryz.prog 244 #[.pointer (some ⟨rb,0,none⟩)] w (Reads insL vAgg iB (fun t=>goodIn t=true) g s w):=by
 have hp:=h.ptr;have HM:=qBK h;have HS:=qBK hs;have hg:=hs.lt;have hrb:=h.2.lt;refine qAg ?_;intro hgw;have hrw:rb≠w.heap.size:=by omega
 by_cases hyes:∃xs,s=some xs∧Has iB (fun t=>goodIn t=true) xs
 · obtain⟨xs,rfl,t,rest,hgt,rfl⟩:=hyes
   have HC:Hid (∀w1,Below w.heap.size w w1→Calls Tryz.prog 267 #[.pointer (some ⟨g,0,none⟩)] w1 fun e w'=>e= .returned (.tuple #[.agg #[.int .i64 t.1,.int .i64 t.2.1,.int .i64 t.2.2],.bool true])∧St w' g (some rest)∧Only g w1 w'):=fun w1 hb=>iget_is g t rest w1 (HS.out.below hb) hgt;have HI:Hid (I64 t.1∧I64 t.2.1∧I64 t.2.2):=by
    obtain⟨o,a,b⟩:=t;obtain⟨o1,a1,b1,e1,e2,e3,h1,h2,h3,_⟩:=qBm (op:=o) (a:=a) (b:=b) hgt;subst e1 e2 e3
    show I64 _∧I64 _∧I64 _
    refine⟨⟨?_,?_⟩,⟨?_,?_⟩,⟨?_,?_⟩⟩<;>simp<;>omega
   have HGT:=qBK hgt;obtain⟨t1,t2,t3⟩:=t;simp only at HC HI;clear h hs hgt
   go_enter Tryz.func244,Tryz.ntmps244
   go_wp2_with (first
    |(go_at_call 267
      refine(HC.out _ ((qBO _ _).alloc (qBL _) _)).mono ?_;rintro e w1 ⟨rfl,hs1,ho1⟩;have HS1:=qBK hs1;have hr1:=qBp ho1 (heap_alloc_new w (.cells #[.int .i64 0,.int .i64 0,.int .i64 0] 65)) hgw;have HO1:=qBK (qBb (qBh _) ho1);have r0:=hr1.cell 0;have r1:=hr1.cell 1;have r2:=hr1.cell 2;have f0:=hr1.frozen 0;have f1:=hr1.frozen 1;have f2:=hr1.frozen 2;have rlt:=hr1.lt;simp at r0 r1 r2;clear hs1 ho1 hr1))
   have hF:Below w.heap.size w1 ((((w1.setCell ⟨w.heap.size,0,none⟩ (.int .i64 t1)).setCell ⟨w.heap.size,1,none⟩ (.int .i64 t2)).setCell ⟨w.heap.size,2,none⟩ (.int .i64 t3)).alloc (.cells #[.int .i64 t1,.int .i64 t2,.int .i64 t3] 65)):=
    ((((qBO _ _).setCell (p:=⟨w.heap.size,0,none⟩) (qBL _) _).setCell (p:=⟨w.heap.size,1,none⟩) (qBL _) _).setCell (p:=⟨w.heap.size,2,none⟩) (qBL _) _).alloc qK _
   refine bodyPost_ret (v:= .agg #[.int .i64 t1,.int .i64 t2,.int .i64 t3]) (by simp[results,Tryz.results244,go_sem,r0,r1,r2,rlt,Nat.ne_of_lt rlt]) rfl ?_;exact⟨qBg HO1.out hF,_,(t1,t2,t3),rfl,⟨rfl,HI.out⟩,.inl ⟨HGT.out,_,rest,rfl,rfl,HS1.out.low hF hg⟩⟩
 · have HNO:Hid (∀xs,s=some xs→¬Has iB (fun t=>goodIn t=true) xs):=fun xs e hh=>hyes ⟨xs,e,hh⟩
   have HC:Hid (∀w1,Below w.heap.size w w1→Calls Tryz.prog 267 #[.pointer (some ⟨g,0,none⟩)] w1 fun e w'=>e= .returned (.tuple #[.agg #[.int .i64 0,.int .i64 0,.int .i64 0],.bool false])∧Rdy w' g∧Only g w1 w'):=fun w1 hb=>qN5 g s w1 (HS.out.below hb) HNO.out;refine jr ?_;intro HR;clear h hs hyes
   go_enter Tryz.func244,Tryz.ntmps244
   go_wp2_with (first
    |(go_at_call 267
      refine(HC.out _ ((qBO _ _).alloc (qBL _) _)).mono ?_;rintro e w1 ⟨rfl,hs1,ho1⟩;have HS1:=qBK hs1;have hr1:=qBp ho1 (heap_alloc_new w (.cells #[.int .i64 0,.int .i64 0,.int .i64 0] 65)) hgw;have HR1:=qBK hr1;have HO1:=qBK (qBb (qBh _) ho1);have rlt:=hr1.lt;have hg1:w1.heap.size≠g:=(by omega);clear hs1 ho1 hr1)
    |(go_at_call 240
      refine(HR.out _ (qBb HO1.out (qBh _)) (HS1.out.low ((qBO _ _).alloc (qBL _) _) (by omega))).mono ?_;rintro e w2 ⟨rfl,hb2,ho2⟩;have HB2:=qBK hb2;have hr2:=qBp ho2 ((qBX _ _ _ HR1.out.lt).trans HR1.out) hgw;have hx2:=qBp ho2 (heap_alloc_new w1 (.cells #[.int .i64 0,.int .i64 0,.int .i64 0] 65)) hg1;have HO2:=qBK (qBb (qBb HO1.out (qBh _)) ho2);have r0:=Blk.cell hr2 0;have r1:=Blk.cell hr2 1;have r2:=Blk.cell hr2 2;have f0:=Blk.frozen hr2 0;have f1:=Blk.frozen hr2 1;have f2:=Blk.frozen hr2 2;have x0:=Blk.cell hx2 0;have x1:=Blk.cell hx2 1;have x2:=Blk.cell hx2 2;simp at r0 r1 r2 x0 x1 x2;clear hb2 ho2 hr2 hx2))
   have hF:Below w.heap.size w2 (((w2.setCell ⟨w.heap.size,0,none⟩ (.int .i64 0)).setCell ⟨w.heap.size,1,none⟩ (.int .i64 0)).setCell ⟨w.heap.size,2,none⟩ (.int .i64 0)):=
    (((qBO _ _).setCell (p:=⟨w.heap.size,0,none⟩) (qBL _) _).setCell (p:=⟨w.heap.size,1,none⟩) (qBL _) _).setCell (p:=⟨w.heap.size,2,none⟩) (qBL _) _
   refine bodyPost_ret (v:= .agg #[.int .i64 0,.int .i64 0,.int .i64 0]) (by simp[results,Tryz.results244,go_sem,r0,r1,r2]) rfl ?_;exact⟨qBg HO2.out hF,_,(0,0,0),rfl,⟨rfl,qD0,qD0,qD0⟩,.inr ⟨HB2.out.below hF hg,HNO.out⟩⟩
def C2 (b i j:Nat) (u v:Value) (w:World):Prop:=w.cell? ⟨b,i,none⟩=some u∧w.cell? ⟨b,j,none⟩=some v
theorem C2.below {b i j B:Nat} {u v:Value} {w':World} (h:C2 b i j u v w) (hb:Below B w w') (hB:b<B):C2 b i j u v w':=⟨(hb.cell (p:=⟨b,i,none⟩) hB).trans h.1,(hb.cell (p:=⟨b,j,none⟩) hB).trans h.2⟩
theorem qDt (rb g:Nat) (v0 v1 v2 v3 v4:Value) (r:Int) (hr8:r≤8) (s:Option (List Nat)) (w:World) (h:Mrd w rb g v0 v1 v2 v3 v4 r) (hs:St w g s):
 Calls Tryz.prog 242 #[.pointer (some ⟨rb,0,none⟩)] w (Reads typL vAgg tB (fun t=>goodT r t=true) g s w):=by
 have HM:=qBK h;have HS:=qBK hs;have hg:=hs.lt;have hrb:=h.2.lt;refine qAg ?_;intro hgw;have hrw:rb≠w.heap.size:=by omega
 by_cases hyes:∃xs,s=some xs∧Has tB (fun t=>goodT r t=true) xs
 · obtain⟨xs,rfl,t,rest,hgt,rfl⟩:=hyes
   have HC:Hid (∀w1,Below w.heap.size w w1→Calls Tryz.prog 266 #[.pointer (some ⟨g,0,none⟩),.int .i64 r] w1 fun e w'=>e= .returned (.tuple #[.agg #[.int .i64 t.1,.int .i64 t.2],.bool true])∧St w' g (some rest)∧Only g w1 w'):=fun w1 hb=>qNm g t rest r hr8 w1 (HS.out.below hb) hgt;have HI:Hid (I64 t.1∧I64 t.2):=by
    obtain⟨a,b,rfl,h1,h2⟩:=qDQ hr8 hgt
    show I64 _∧I64 _
    refine⟨⟨?_,?_⟩,⟨?_,?_⟩⟩<;>simp<;>omega
   have HGT:=qBK hgt;obtain⟨t1,t2⟩:=t;simp only at HC HI;clear h hs hgt
   go_enter Tryz.func242,Tryz.ntmps242
   go_wp2_with fail
   refine qBV fun W hW=> ?_;refine jp ?_;intro HB0;refine qA8 ?_;intro HR0 HO0;clear hW;refine qAl ?_;intro HK0 z0 z6 hWs hrW hgW
   go_region_held3 (fun w'=>w'.cell? ⟨rb,0,none⟩=some (.pointer (some ⟨g,0,none⟩))∧w'.cell? ⟨rb,6,none⟩=some (.int .i64 r))
    (first|exact HK0.out|exact HK0.out.below (((qBO W.heap.size W).alloc (qBL _) _).drew) hrW|exact HK1.out|(have hz:=HK1.out;clear hz;first|exact HK1.out.below ((qBO W.heap.size w1).alloc HW1.out _) hrW|exact HK1.out.below (((qBO W.heap.size w1).setCell (qBL _) _).setCell (qBL _) _) hrW|exact HK1.out.below ((qBO W.heap.size w1).setCell (qBL _) _) hrW))
    (first
    |(go_at_call 266
      (with_reducible refine(HC.out W.drew HB0.out.drew).mono ?_)
      rintro e w1 ⟨rfl,hs1,ho1⟩;have HS1:=qBK hs1;have hr1:=qBp (w:=W.drew) ho1 HR0.out hgw;have HO1:=qBK (qBb (qBg HO0.out ((qBO _ W).drew)) ho1);refine jZ ?_;intro HK1 r0 r1 f0 f1;have rlt:=hr1.lt;have HW1:Hid (W.heap.size≤w1.heap.size):=ho1.size;simp at r0 r1;clear hs1 ho1 hr1)
    |(go_at_call 266
      refine(HC.out _ (HB0.out.alloc HB0.out.size _).drew).mono ?_;rintro e w1 ⟨rfl,hs1,ho1⟩;have HS1:=qBK hs1;refine jU ?_;intro hr1 hx1 HO1 HK1 r0 r1 f0 f1 x0 x1 y0 y1 rlt HW1;simp at r0 r1 x0 x1;clear hs1 ho1 hr1 hx1))
   all_goals go_wp2_with fail
   · have hF:Below w.heap.size w1 (((w1.setCell ⟨w.heap.size,0,none⟩ (.int .i64 t1)).setCell ⟨w.heap.size,1,none⟩ (.int .i64 t2)).alloc (.cells #[.int .i64 t1,.int .i64 t2] 61)):=
      (((qBO _ _).setCell (p:=⟨w.heap.size,0,none⟩) (qBL _) _).setCell (p:=⟨w.heap.size,1,none⟩) (qBL _) _).alloc qK _
     refine bodyPost_ret (v:= .agg #[.int .i64 t1,.int .i64 t2]) (by simp[results,Tryz.results242,go_sem,r0,r1,rlt,Nat.ne_of_lt rlt]) rfl ?_;exact⟨qBg HO1.out hF,_,(t1,t2),rfl,⟨rfl,HI.out⟩,.inl ⟨HGT.out,_,rest,rfl,rfl,HS1.out.low hF hg⟩⟩
   · have hF:Below w.heap.size w1 ((((w1.setCell ⟨W.heap.size,0,none⟩ (.int .i64 t1)).setCell ⟨W.heap.size,1,none⟩ (.int .i64 t2)).setCell ⟨w.heap.size,0,none⟩ (.int .i64 t1)).setCell ⟨w.heap.size,1,none⟩ (.int .i64 t2)):=
      ((((qBO _ _).setCell (p:=⟨W.heap.size,0,none⟩) HB0.out.size _).setCell (p:=⟨W.heap.size,1,none⟩) HB0.out.size _).setCell (p:=⟨w.heap.size,0,none⟩) (qBL _) _).setCell (p:=⟨w.heap.size,1,none⟩) (qBL _) _
     refine bodyPost_ret (v:= .agg #[.int .i64 t1,.int .i64 t2]) (by simp[results,Tryz.results242,go_sem,r0,r1,rlt,hWs,Nat.ne_of_lt hWs]) rfl ?_;exact⟨qBg HO1.out hF,_,(t1,t2),rfl,⟨rfl,HI.out⟩,.inl ⟨HGT.out,_,rest,rfl,rfl,HS1.out.low hF hg⟩⟩
 · have HNO:Hid (∀xs,s=some xs→¬Has tB (fun t=>goodT r t=true) xs):=fun xs e hh=>hyes ⟨xs,e,hh⟩
   have HC:Hid (∀w1,Below w.heap.size w w1→Calls Tryz.prog 266 #[.pointer (some ⟨g,0,none⟩),.int .i64 r] w1 fun e w'=>e= .returned (.tuple #[.agg #[.int .i64 0,.int .i64 0],.bool false])∧Rdy w' g∧Only g w1 w'):=fun w1 hb=>qNn g r hr8 s w1 (HS.out.below hb) HNO.out;refine jr ?_;intro HR;clear h hs hyes
   go_enter Tryz.func242,Tryz.ntmps242
   go_wp2_with fail
   refine qBV fun W hW=> ?_;refine jp ?_;intro HB0;refine qA8 ?_;intro HR0 HO0;clear hW;refine qAl ?_;intro HK0 z0 z6 hWs hrW hgW
   go_region_held3 (fun w'=>w'.cell? ⟨rb,0,none⟩=some (.pointer (some ⟨g,0,none⟩))∧w'.cell? ⟨rb,6,none⟩=some (.int .i64 r))
    (first|exact HK0.out|exact HK0.out.below (((qBO W.heap.size W).alloc (qBL _) _).drew) hrW|exact HK1.out|(have hz:=HK1.out;clear hz;first|exact HK1.out.below ((qBO W.heap.size w1).alloc HW1.out _) hrW|exact HK1.out.below (((qBO W.heap.size w1).setCell (qBL _) _).setCell (qBL _) _) hrW|exact HK1.out.below ((qBO W.heap.size w1).setCell (qBL _) _) hrW))
    (first
    |(go_at_call 266
      (with_reducible refine(HC.out W.drew HB0.out.drew).mono ?_)
      rintro e w1 ⟨rfl,hs1,ho1⟩;have HS1:=qBK hs1;have hr1:=qBp (w:=W.drew) ho1 HR0.out hgw;have HO1:=qBK (qBb (qBg HO0.out ((qBO _ W).drew)) ho1);refine jZ ?_;intro HK1 r0 r1 f0 f1;have rlt:=hr1.lt;have HW1:Hid (W.heap.size≤w1.heap.size):=ho1.size;simp at r0 r1;have HX1:=qBK hr1;clear hs1 ho1 hr1)
    |(go_at_call 266
      refine(HC.out _ (HB0.out.alloc HB0.out.size _).drew).mono ?_;rintro e w1 ⟨rfl,hs1,ho1⟩;have HS1:=qBK hs1;refine jU ?_;intro hr1 hx1 HO1 HK1 r0 r1 f0 f1 x0 x1 y0 y1 rlt HW1;simp at r0 r1 x0 x1;have HX1:=qBK hr1;have HY1:=qBK hx1;clear hs1 ho1 hr1 hx1))
   · have hg1:w1.heap.size≠g:=by have:=HW1.out;omega
     have hgz:g<w1.heap.size:=by have:=HW1.out;omega
     go_wp2_with (first
      |(go_at_call 240
        refine(HR.out _ (qBb HO1.out (qBh _)) (HS1.out.low ((qBO _ _).alloc (qBL _) _) hgz)).mono ?_;rintro e w2 ⟨rfl,hb2,ho2⟩;have HB2:=qBK hb2;have hr2:=qBp ho2 ((qBX _ _ _ HX1.out.lt).trans HX1.out) hgw;have hx2:=qBp ho2 (heap_alloc_new w1 (.cells #[.int .i64 0,.int .i64 0] 61)) hg1;have HO2:=qBK (qBb (qBb HO1.out (qBh _)) ho2);have q0:=Blk.cell hr2 0;have q1:=Blk.cell hr2 1;have p0:=Blk.frozen hr2 0;have p1:=Blk.frozen hr2 1;have k0:=Blk.cell hx2 0;have k1:=Blk.cell hx2 1;simp at q0 q1 k0 k1;clear hb2 ho2 hr2 hx2))
     exact qb
   · have hgz:g<W.heap.size:=by omega
     have hF1:Below W.heap.size w1 ((w1.setCell ⟨W.heap.size,0,none⟩ (.int .i64 0)).setCell ⟨W.heap.size,1,none⟩ (.int .i64 0)):=((qBO _ _).setCell (p:=⟨W.heap.size,0,none⟩) (qBL _) _).setCell (p:=⟨W.heap.size,1,none⟩) (qBL _) _;have HF1:=qBK hF1;clear hF1
     go_wp2_with (first
      |(go_at_call 240
        refine(HR.out _ (qBg HO1.out (HF1.out.mono HB0.out.size)) (HS1.out.low HF1.out hgz)).mono ?_;rintro e w2 ⟨rfl,hb2,ho2⟩;have HB2:=qBK hb2;have hr2:=qBp ho2 (qB7 (qB7 HX1.out _ (Nat.ne_of_lt hWs)) _ (Nat.ne_of_lt hWs)) hgw;have hx2:=qBp ho2 ((HY1.out.set 0 (.int .i64 0)).set 1 (.int .i64 0)) hgW;have HO2:=qBK (qBb (qBg HO1.out (HF1.out.mono HB0.out.size)) ho2);have q0:=Blk.cell hr2 0;have q1:=Blk.cell hr2 1;have p0:=Blk.frozen hr2 0;have p1:=Blk.frozen hr2 1;have k0:=Blk.cell hx2 0;have k1:=Blk.cell hx2 1;simp at q0 q1 k0 k1;clear hb2 ho2 hr2 hx2))
     exact qb
theorem qGx (rb g:Nat) (v0 v1 v2 v3 v4:Value) (r:Int) (lo hi v:Nat) (rest:List Nat) (w:World) (h:Mrd w rb g v0 v1 v2 v3 v4 r) (hs:St w g (some (vb v++rest))) (hlo:lo≤1) (hhi:hi≤1000) (h1:lo≤v) (h2:v≤hi):
 Calls Tryz.prog 187 #[.pointer (some ⟨rb,0,none⟩),.int .i64 (lo:Int),.int .i64 (hi:Int)] w fun e w'=>e= .returned (.int .i64 (v:Int))∧St w' g (some rest)∧Only g w w':=by
 refine(qC1 rb g v0 v1 v2 v3 v4 r lo hi _ w h hs hlo hhi).mono ?_;rintro e w' ⟨ho,u,rfl,hu,⟨_,xs,rest',e1,e2,hs'⟩|⟨_,_,hno⟩⟩
 · injection e1 with e1
   subst e1;obtain⟨rfl,rfl⟩:=qB3 qj qj e2;exact⟨rfl,hs',ho⟩
 · exact absurd ⟨v,rest,h1,h2,rfl⟩ (hno _ rfl)
theorem qGz (rb g:Nat) (v0 v1 v2 v3 v4:Value) (r:Int) (lo hi:Nat) (s:Option (List Nat)) (w:World) (h:Mrd w rb g v0 v1 v2 v3 v4 r) (hs:St w g s) (hlo:lo≤1) (hhi:hi≤1000) (hno:∀xs,s=some xs→¬∃v rest,lo≤v∧v≤hi∧xs=vb v++rest):
 Calls Tryz.prog 187 #[.pointer (some ⟨rb,0,none⟩),.int .i64 (lo:Int),.int .i64 (hi:Int)] w fun e w'=>e= .returned (.int .i64 0)∧Bad w' g∧Only g w w':=by
 refine(qC1 rb g v0 v1 v2 v3 v4 r lo hi _ w h hs hlo hhi).mono ?_;rintro e w' ⟨ho,u,rfl,hu,⟨h1,xs,rest',e1,e2,hs'⟩|⟨rfl,hs',_⟩⟩
 · exact absurd ⟨u,rest',h1,hu,e2⟩ (hno _ e1)
 · exact⟨rfl,hs',ho⟩
theorem fb_le:∀(xs:List Nat),(∀x∈xs,x<256)→fb (le xs) xs.length=xs:=by
 intro xs
 induction xs with
 |nil=>intro _;rfl
 |cons x xs ih=>
  intro h;have hx:=h x (by simp);have e:=ih fun y hy=>h y (by simp[hy]);simp only[fb,le,List.length_cons,List.range_succ_eq_map,List.map_cons,List.map_map] at e⊢;refine List.cons_eq_cons.2 ⟨by simp;omega,?_⟩;rw[←e];simp only[List.length_map,List.length_range];refine List.map_congr_left fun j _=> ?_;simp only[Function.comp_apply,Nat.pow_succ];rw[e,Nat.mul_comm (256 ^ j) 256,←Nat.div_div_eq_div_mul]
  congr 2
  omega
theorem qFm (rb g:Nat) (v0 v1 v2 v3 v4:Value) (r:Int) (s:Option (List Nat)) (w:World) (h:Mrd w rb g v0 v1 v2 v3 v4 r) (hs:St w g s):
 Calls Tryz.prog 195 #[.pointer (some ⟨rb,0,none⟩)] w (Reads numL vOne numB (fun n=>n<B64) g s w):=by
 have hp:=h.ptr;have e8:wid 8=8:=by decide
 by_cases hyes:∃xs,s=some xs∧8≤xs.length
 · obtain⟨xs,rfl,h8⟩:=hyes
   have HC:=qBK (qGb g 8 xs w hs.1 hs.2.1 (by rw[e8];exact h8));rw[e8] at HC;have hb:∀x∈xs.take 8,x<256:=fun x hx=>hs.2.1 x (List.mem_of_mem_take hx);have hfb:=fb_le (xs.take 8) hb;have hlt:=le_lt (xs.take 8) hb;have hl8:(xs.take 8).length=8:=by simp;omega
   rw[hl8] at hfb hlt;have h64:(256:Nat) ^ 8=B64:=by decide
   have HF:Hid (xs=numB (le (xs.take 8))++xs.drop 8):=by show xs=_;rw[numB,hfb,List.take_append_drop]
   have HL:Hid (le (xs.take 8)<B64):=by show _<B64;rw[←h64];exact hlt
   have HS:=qBK hs;clear h e8 hb hfb hlt hl8 h64 hs;generalize le (xs.take 8)=n at*
   go_enter Tryz.func195,Tryz.ntmps195
   go_wp2_with (first|(go_at_call 245;refine HC.out.mono ?_;rintro e w1 ⟨rfl,hg1,ho1⟩))
   go_ret;exact⟨ho1,[.int .u64 (n:Int)],n,rfl,⟨rfl,HL.out⟩,.inl ⟨HL.out,xs,xs.drop 8,rfl,HF.out,HS.out.rest HF.out hg1⟩⟩
 · have HC:Hid (Calls Tryz.prog 245 #[.pointer (some ⟨g,0,none⟩),.int .i64 8] w fun e w'=>e= .returned (.int .u64 0)∧Bad w' g∧Only g w w'):=by
    cases s with
    |none=>exact(qFg g 8 w hs).mono fun e w' ⟨h1,h2⟩=>⟨h1,Bad.below hs h2 (Bad.lt hs),qCL h2⟩
    |some xs=>exact qEV g 8 xs w hs.1 (by rw[e8];exact Nat.lt_of_not_le fun h=>hyes ⟨xs,rfl,h⟩)
   have HNO:Hid (∀xs,s=some xs→¬Has numB (fun n=>n<B64) xs):=by
    rintro xs rfl ⟨y,rest,_,rfl⟩;exact hyes ⟨_,rfl,by simp[numB,qDT]⟩
   clear h e8 hyes
   go_enter Tryz.func195,Tryz.ntmps195
   go_wp2_with (first|(go_at_call 245;refine HC.out.mono ?_;rintro e w1 ⟨rfl,hg1,ho1⟩))
   go_ret;exact⟨ho1,[.int .u64 0],0,rfl,⟨rfl,by unfold B64;omega⟩,.inr ⟨hg1,HNO.out⟩⟩
theorem byt_in {S:Nat→Prop} {A:Option Addr} {xs:List Nat} (h:Byt S w A xs):Lib.BytesIn w A xs.length (xs.map fun x:Nat=>(x:Int)):=by
 rcases Nat.eq_zero_or_pos xs.length with h0|h0
 · rw[h0]
   exact Lib.BytesIn.nil _ _ _
 · obtain⟨a,rfl,_,hc⟩:=h h0
   refine Lib.BytesIn.of_cells fun i hi=> ?_;rw[hc i hi];simp[hi,List.getD]
theorem strB_of (xs:List Nat) (h:∀x∈xs,x<256):strB (strOfNums (xs.map fun x:Nat=>(x:Int)))=xs:=by
 simp only[strB,strOfNums_data,List.map_map]
 conv=>rhs;rw[←List.map_id xs]
 refine List.map_congr_left fun z hz=> ?_;have:=h z hz;simp
 omega
theorem qF8 {S:Nat→Prop} {A:Option Addr} {n c:Nat} {xs:List Nat} (hn:xs.length=n) (h:Byt S w A xs) (hb:∀x∈xs,x<256):
 ∃s,strB s=xs∧(convert 76 9 (.slice A n c)).run Tryz.prog w= .ok (.string s) w:=by
 subst hn;exact⟨_,strB_of xs hb,(byt_in h).convert (P:=Tryz.prog) (by simp) c 76 5 9 Tryz.underlying76 Tryz.underlying5 Tryz.underlying9⟩
def ReadsN {α:Type} (L:Lay α) (ty:Nat) (f:α→List Nat) (gd:α→Prop) (n g:Nat) (s:Option (List Nat)) (w:World) (e:Ending) (w':World):Prop:=
 Only g w w'∧∃v xs,e= .returned v∧Owns L ty w.heap.size w' v xs∧xs.length=n∧
  (((∀x∈xs,gd x)∧∃zs rest,s=some zs∧zs=(xs.map f).flatten++rest∧St w' g (some rest))∨(St w' g none∧∀zs,s=some zs→¬HasN f gd n zs))
def Upto {α:Type} (f:α→List Nat) (gd:α→Prop) (n:Nat) (s t:Option (List Nat)) (xs:List α):Prop:=
 ((∀x∈xs,gd x)∧∃zs rest,s=some zs∧zs=(xs.map f).flatten++rest∧t=some rest)∨(t=none∧∀zs,s=some zs→¬HasN f gd n zs)
theorem Upto.start {α:Type} (f:α→List Nat) (gd:α→Prop) (n:Nat) (s:Option (List Nat)):Upto f gd n s s ([]:List α):=by
 cases s with
 |none=>exact .inr ⟨rfl,fun zs h=>by cases h⟩
 |some zs=>exact .inl ⟨by simp,zs,zs,rfl,by simp,rfl⟩
theorem Upto.step {α:Type} {f:α→List Nat} {gd:α→Prop} (hPF:PF f gd) {n:Nat} {s t:Option (List Nat)} {xs:List α} {x:α} (h:Upto f gd n s t xs) (hk:xs.length<n) {w':World} {g:Nat}
 (hx:(gd x∧∃ys rest,t=some ys∧ys=f x++rest∧St w' g (some rest))∨(St w' g none∧∀ys,t=some ys→¬Has f gd ys)):∃t',St w' g t'∧Upto f gd n s t' (xs++[x]):=by
 rcases h with⟨hg,zs,rest,rfl,hz,rfl⟩|⟨rfl,hno⟩
 · rcases hx with⟨hgx,ys,rest',e1,e2,hs⟩|⟨hs,hn⟩
   · injection e1 with e1
     subst e1 e2;refine⟨some rest',hs,.inl ⟨fun y hy=> ?_,zs,rest',rfl,?_,rfl⟩⟩
     · rcases List.mem_append.1 hy with h|h
       · exact hg y h
       · simp at h;subst h;exact hgx
     · rw[hz];simp
   · refine⟨none,hs,.inr ⟨rfl,fun zs' e=> ?_⟩⟩
     injection e with e;subst e;exact hPF.row_no hz hg hk (hn rest rfl)
 · rcases hx with⟨hgx,ys,rest',e1,_⟩|⟨hs,hn⟩
   · cases e1
   · exact⟨none,hs,.inr ⟨rfl,hno⟩⟩
theorem qNx:(Tryz.prog.info? 61).map (fun i=>(i.zero,i.size,i.bytes))=some (some (.agg #[.int .i64 0,.int .i64 0]),typL.k,16):=by kernel_rfl
theorem qJx (rb g n:Nat) (gd:Typ→Prop) (hPF:PF tB gd) (s:Option (List Nat)) (w:World) (hs:St w g s) (hn:n≤1000000)
 (hE:∀(w1:World) (s1:Option (List Nat)),Only g w w1→St w1 g s1→Calls Tryz.prog 242 #[.pointer (some ⟨rb,0,none⟩)] w1 (Reads typL vAgg tB gd g s1 w1)):
 Calls Tryz.prog 265 #[.int .i64 (n:Int),.func (.func 242) #[.pointer (some ⟨rb,0,none⟩)] #[]] w (ReadsN typL 61 tB gd n g s w):=by
 refine qAF ?_;intro hg HS HE HPF;clear hs hE hPF
 go_enter Tryz.func265,Tryz.ntmps265
 go_wp2_with fail
 go_loopw [5,7] (fun v i wr=>∃k:Nat,k≤n∧i= .int .i64 (k:Nat)∧∃xs:List Typ,xs.length=k∧Owns typL 61 w.heap.size wr v xs∧Only g w wr∧∃t,St wr g t∧Upto tB gd n s t xs) (fun _ i _=>n-(intOf i).toNat)
 case atStart=>exact⟨0,qBU _,rfl,[],rfl,Owns.nil _ _ _ _,qBv _ _,s,HS.out,Upto.start _ _ _ _⟩
 case round=>
  obtain⟨k,hk,rfl,xs,hxl,hown,honly,t,ht,hup⟩:=hrel;refine jc ?_;intro HX HO HY HT HU hsz;clear hxl hown honly ht hup
  by_cases hlt:k<n
  · have HC:=qBK (HE.out wr t HY.out HT.out)
    go_wp2_with (first
     |(go_at_call 242
       refine HC.out.mono ?_;rintro e w1 ⟨ho1,cs,x,he,hr,hx⟩;refine je ?_;intro HR HXX HO1 HW1 hs1;obtain⟨rfl,-,-⟩:=hr;obtain rfl:e= .returned (.agg #[.int .i64 x.1,.int .i64 x.2]):=he;clear hx ho1)
     |(at_builtin
       refine qB5 typL _ rfl (.tmp 9) (.tmp 12) 62 61 rfl (.agg #[.int .i64 0,.int .i64 0]) 16 Tryz.underlying62 qNx rfl qp qp w.heap.size u5 xs rfl (HW1.out.kept hg (qBh _)) ⟨w1.heap.size,0,none⟩ 1 rfl [.int .i64 x.1,.int .i64 x.2] x (qCg w1 61 [.int .i64 x.1,.int .i64 x.2]) ?_ zy qK ?_
       · exact typL.wide (typL.keep HR.out fun b hb=>qBX _ _ _ hb.2) fun b hb=>⟨by omega,by simp;omega,fun e=>by have:=HO.out.lt b e;omega⟩
       intro v2 w2 hown2 hg2;have HO2:=qBK hown2;have HG2:=qBK hg2;clear hown2 hg2))
    exact qB
  · exact qL
theorem qN1:(Tryz.prog.info? 65).map (fun i=>(i.zero,i.size,i.bytes))=some (some (.agg #[.int .i64 0,.int .i64 0,.int .i64 0]),insL.k,24):=by kernel_rfl
theorem qFs (rb g n:Nat) (gd:Ins→Prop) (hPF:PF iB gd) (s:Option (List Nat)) (w:World) (hs:St w g s) (hn:n≤1000000)
 (hE:∀(w1:World) (s1:Option (List Nat)),Only g w w1→St w1 g s1→Calls Tryz.prog 244 #[.pointer (some ⟨rb,0,none⟩)] w1 (Reads insL vAgg iB gd g s1 w1)):
 Calls Tryz.prog 243 #[.int .i64 (n:Int),.func (.func 244) #[.pointer (some ⟨rb,0,none⟩)] #[]] w (ReadsN insL 65 iB gd n g s w):=by
 refine qAF ?_;intro hg HS HE HPF;clear hs hE hPF
 go_enter Tryz.func243,Tryz.ntmps243
 go_wp2_with fail
 go_loopw [5,7] (fun v i wr=>∃k:Nat,k≤n∧i= .int .i64 (k:Nat)∧∃xs:List Ins,xs.length=k∧Owns insL 65 w.heap.size wr v xs∧Only g w wr∧∃t,St wr g t∧Upto iB gd n s t xs) (fun _ i _=>n-(intOf i).toNat)
 case atStart=>exact⟨0,qBU _,rfl,[],rfl,Owns.nil _ _ _ _,qBv _ _,s,HS.out,Upto.start _ _ _ _⟩
 case round=>
  obtain⟨k,hk,rfl,xs,hxl,hown,honly,t,ht,hup⟩:=hrel;refine jc ?_;intro HX HO HY HT HU hsz;clear hxl hown honly ht hup
  by_cases hlt:k<n
  · have HC:=qBK (HE.out wr t HY.out HT.out)
    go_wp2_with (first
     |(go_at_call 244
       refine HC.out.mono ?_;rintro e w1 ⟨ho1,cs,x,he,hr,hx⟩;refine je ?_;intro HR HXX HO1 HW1 hs1;obtain⟨rfl,-,-,-⟩:=hr;obtain rfl:e= .returned (.agg #[.int .i64 x.1,.int .i64 x.2.1,.int .i64 x.2.2]):=he;clear hx ho1)
     |(at_builtin
       refine qB5 insL _ rfl (.tmp 9) (.tmp 12) 63 65 rfl (.agg #[.int .i64 0,.int .i64 0,.int .i64 0]) 24 Tryz.underlying63 qN1 rfl qp qp w.heap.size u5 xs rfl (HW1.out.kept hg (qBh _)) ⟨w1.heap.size,0,none⟩ 1 rfl [.int .i64 x.1,.int .i64 x.2.1,.int .i64 x.2.2] x (qCg w1 65 [.int .i64 x.1,.int .i64 x.2.1,.int .i64 x.2.2]) ?_ zy qK ?_
       · exact insL.wide (insL.keep HR.out fun b hb=>qBX _ _ _ hb.2) fun b hb=>⟨by omega,by simp;omega,fun e=>by have:=HO.out.lt b e;omega⟩
       intro v2 w2 hown2 hg2;have HO2:=qBK hown2;have HG2:=qBK hg2;clear hown2 hg2))
    exact qB
  · obtain rfl:k=n:=by omega
    go_wp2_with fail
    go_ret;refine⟨HY.out,_,xs,rfl,HO.out,HX.out,?_⟩;rcases HU.out with⟨h1,zs,rest,h2,h3,rfl⟩|⟨rfl,h1⟩
    · exact .inl ⟨h1,zs,rest,h2,h3,HT.out⟩
    · exact .inr ⟨HT.out,h1⟩
end Go.Proofs.YtgdbhanhmenmfaaGreat
