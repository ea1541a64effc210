/-
Hi Hj Hk Ht Hu Aa Ab Ar Ac Sn Fl Tyr Wityp Wiins Kgd Iar Ift
-/
import Derived.Test.YtgdbhanhmenmfaaGreatChecked
import Derived.Test.YtgdbhanhmenmfaaGreatQ01
import Derived.Test.YtgdbhanhmenmfaaGreatQ02
import Derived.Test.YtgdbhanhmenmfaaGreatQ03
import Derived.Test.YtgdbhanhmenmfaaGreatQ04
import Derived.Lib.QuietBelow
import Derived.BigQuiet
import Derived.Deep.RegionHeld3
import Derived.Deep.DeepCutAuto
import Derived.Lib.Hide
import Derived.Laws.BitsAllLaws
import Derived.WalkKit
import Derived.ProofKit
import Derived.IntWalk
import Derived.Lib.AppendZeros
import Derived.LoopN
set_option linter.unusedSimpArgs false
set_option linter.unusedVariables false
set_option maxRecDepth 100000
set_option maxHeartbeats 2000000
namespace Go.Proofs.YtgdbhanhmenmfaaGreat
open Go.RowKit
variable {A:Option Addr}{S:Nat→Prop}{a b:List Typ}{f:Fn}{α:Type}{g:α→Bool}{j k:Nat}{m:Mod}{t:Typ}{ts:List Typ}{w:World}{x:Typ}{xs:List α}{y:Typ}{ys:List Typ}
theorem qF {P:Prop} (h:P:=by
 go_wp2_with fail
 go_ret;exact⟨rfl,(qBO _ _).alloc (qBL _) _⟩):P:=h
theorem qP {P:Prop} (h:P:=by
 obtain rfl:k=n:=by omega
 go_wp2_with fail
 go_ret;refine⟨?_,HB.out⟩;have e:=HA.out;rw[qBS (by rw[HL.out];exact qBL _)] at e;rw[HW.out,e]
 rfl):P:=h
theorem qQ {P:Prop} (h:P:=by
 rw[decide_eq_false (by omega)]
 go_enter Tryz.func234,Tryz.ntmps234
 go_wp2_with fail
 refine wp_loop_rounds 3 ?_;rw[rounds_succ]
 go_wp2_with fail
 rw[rounds_succ];exact qF):P:=h
theorem qW {P:Prop} (h:P:=by
 rw[decide_eq_false (by omega)]
 go_enter Tryz.func234,Tryz.ntmps234
 go_wp2_with fail
 refine wp_loop_rounds 3 ?_;rw[rounds_succ];exact qF):P:=h
theorem qZ {P:Prop} (h:P:=by
 go_wp2_with fail
 go_ret;exact⟨rfl,qBO _ _⟩):P:=h
theorem qn {P:Prop} (h:P:=by
 rw[rounds_succ]
 go_wp2_with fail
 rw[rounds_succ];exact qF):P:=h
theorem q8 {P:Prop} (h:P:=by
 go_enter Tryz.func165,Tryz.ntmps165
 exact qF):P:=h
theorem zP {P:Prop} (h:P:=by
 have e:argN op= -1:=by unfold argN;rw[if_neg (by omega),if_neg (by omega),if_pos (by omega)]
 rw[e];clear e
 go_enter Tryz.func233,Tryz.ntmps233
 go_wp2_with fail
 go_ret;exact⟨rfl,rfl⟩):P:=h
theorem zR {P:Prop} (h:P:=by
 go_ret;exact⟨by rw[E.out];rfl,Hb2.out⟩):P:=h
theorem zj {P:Prop} (h:P:=by
 rw[decide_eq_true (by omega)]
 go_enter Tryz.func234,Tryz.ntmps234
 go_wp2_with fail
 refine wp_loop_rounds 3 ?_;rw[rounds_succ]
 go_wp2_with fail
 exact qn):P:=h
theorem qHz {O:List Ob} {q u:Int} (g:Nat) (w:World) (h:IsHp S w g O q u):
 Calls Tryz.prog 76 #[.pointer (some ⟨g,0,none⟩)] w fun e w'=>e= .returned (.int .i64 u)∧w=w':=by
 obtain⟨v,css,tag,hb,-⟩:=h;have c2:=hb.cell 2
 go_enter Tryz.func76,Tryz.ntmps76
 go_wp2
 go_ret;exact⟨rfl,rfl⟩
theorem qNN {O:List Ob} {q u:Int} (g:Nat) (w:World) (h:IsHp S w g O q u) (hO:O.length≤100000) (hz:∀o∈O,o.small) (hS:∀b,S b→b<w.heap.size):
 Calls Tryz.prog 74 #[.pointer (some ⟨g,0,none⟩)] w fun e w'=>∃v css tag,e= .returned v∧Row (fun b=>w.heap.size≤b∧b<w'.heap.size) tag w' v css O∧Below w.heap.size w w':=by
 obtain⟨v,css,tag,hb,-,-,hr⟩:=h;obtain⟨A,c,rfl,hc1,hc2⟩:=hr.shape;obtain⟨A',c',e,-,-,hsq⟩:=hr.sl;simp only[List.cons.injEq,Value.slice.injEq,and_true] at e;obtain⟨rfl,-,rfl⟩:=e;have HC:=qBK (qF7 A O.length c O w rfl (hsq.wide hS) hz hO);have c0:=hb.cell 0;clear hr hsq hz
 go_enter Tryz.func74,Tryz.ntmps74
 go_wp2_with (first
  |(go_at_call 109
    refine HC.out.mono ?_;rintro e w1 ⟨v1,css1,tag1,rfl,hr1,hb1⟩;have HR1:=qBK hr1;have HB1:=qBK hb1;clear hr1 hb1))
 go_ret;exact⟨_,css1,tag1,rfl,HR1.out,HB1.out⟩
theorem qK0 (A:Option Addr) (n c:Nat) (O:List Ob) (q u:Int) (w:World) (hl:O.length=n) (h:Sq obL (·<w.heap.size) w A O) (hz:∀o∈O,o.small) (hn:n≤100000) (hq:I64 q) (hu:I64 u):
 Calls Tryz.prog 60 #[.slice A n c,.int .i64 q,.int .i64 u] w fun e w'=>∃g,e= .returned (.pointer (some ⟨g,0,none⟩))∧w.heap.size≤g∧IsHp (fun b=>w.heap.size≤b∧b<w'.heap.size) w' g O (max (-1099511627776) (min q 1099511627776)) (max (-1099511627776) (min u 1099511627776))∧Below w.heap.size w w':=by
 have HC:=qBK (qF7 A n c O w hl h hz hn);have HQ:=qBK (fun w=>qIt q w hq);have HU:=qBK (fun w=>qIt u w hu);clear hl h hz hq hu;generalize (max (-1099511627776) (min q 1099511627776))=q' at*;generalize (max (-1099511627776) (min u 1099511627776))=u' at*
 go_enter Tryz.func60,Tryz.ntmps60
 go_wp2_with (first
  |(go_at_call 109
    refine HC.out.mono ?_;rintro e w1 ⟨v1,css1,tag1,rfl,hr1,hb1⟩;obtain⟨A1,c1,rfl,-,-⟩:=hr1.shape;have HR1:=qBK hr1;have HB1:=qBK hb1;have hs1:=hb1.size;clear hr1 hb1)
  |(go_at_call 110
    with_reducible refine(HQ.out _).mono ?_
    rintro e w2 ⟨rfl,rfl⟩)
  |(go_at_call 110
    with_reducible refine(HU.out _).mono ?_
    rintro e w2 ⟨rfl,rfl⟩))
 go_ret;refine⟨w1.heap.size,rfl,hs1,?_,HB1.out.alloc hs1 _⟩
 classical
 refine⟨_,css1,fun b=>if b=w1.heap.size then 0 else tag1 b,qBl rfl,⟨hs1,by simp⟩,by simp,?_⟩;have hr:=HR1.out;refine⟨hr.1,qBs hr.2.1 fun b e=>qBX _ _ _ (hr.2.1.lt b e).2,fun b e=> ?_,fun j o cs e1 e2=> ?_⟩
 · obtain⟨h1,h2⟩:=hr.2.2.1 b e
   exact⟨⟨h1.1,by simp;omega⟩,by show(if b=w1.heap.size then 0 else tag1 b)=1;rw[if_neg (by omega)];exact h2⟩
 · refine((hr.2.2.2 j o cs e1 e2).keep (w':=w1.alloc _) (fun b hb=>qBX _ _ _ hb.1.2) fun b hb=>qBX _ _ _ hb.1.2).wide (fun b _ hb=>⟨⟨hb.1.1,by simp;omega⟩,?_⟩) fun b _ hb=>⟨⟨hb.1.1,by simp;omega⟩,?_⟩
   · show(if b=w1.heap.size then 0 else tag1 b)=_
     rw[if_neg (by omega)];exact hb.2
   · show(if b=w1.heap.size then 0 else tag1 b)=_
     rw[if_neg (by omega)];exact hb.2
def Full (O:List Ob) (q u k:Int):Prop:=q-k<u∨4096≤O.length
theorem qG2 (A:Option Addr) (n c:Nat) (H:List Hnd) (w:World) (hl:H.length=n) (hR:Sq hdL (·<w.heap.size) w A H) (hn:n≤1000000):
 Calls Tryz.prog 66 #[.slice A n c] w fun e w'=>∃v,e= .returned v∧w'.ownsRow w.heap.size 102 3 v n (Hcs H)∧Below w.heap.size w w':=by
 refine qAY ?_;intro qq HL HR;rcases A with _|a
 · have h0:H=[]:=by
    cases H with
    |nil=>rfl
    |cons t ts=>obtain⟨a,e,-⟩:=hR (by simp);cases e
   subst h0;obtain rfl:n=0:=by simpa using hl.symm
   clear hl hR
   go_enter Tryz.func66,Tryz.ntmps66
   go_wp2_with fail
   exact qw
 · clear hl hR
   go_enter Tryz.func66,Tryz.ntmps66
   go_wp2_with (at_builtin
                refine qCH hdL _ rfl (.tmp 5) (.tmp 6) 31 102 rfl (.agg #[.int .i64 0,.int .u64 0,.bool false]) 24 Tryz.underlying31 qK4 rfl qp (by omega) w.heap.size (.slice (some ⟨w.heap.size,0,none⟩) 0 0) rfl (qC4 w _ _) a n c H rfl HL.out (·<w.heap.size) (HR.out.keep fun b hb=>qBX w _ b hb) (by omega) (by simp) ?_;intro v2 w2 css hcl hown2 hRR hg2;rw[qFx (hcl.trans HL.out.symm) hRR] at hown2;refine qBD ?_;intro HO2 HB2;clear hown2 hRR hg2 hcl)
   go_ret;exact⟨_,rfl,HO2.out,HB2.out⟩
theorem qMi (A:Option Addr) (n c:Nat) (H:List Hnd) (w:World) (hl:H.length=n) (h:Sq hdL (·<w.heap.size) w A H) (hn:n≤1000000):
 Calls Tryz.prog 61 #[.slice A n c] w fun e w'=>∃g,e= .returned (.pointer (some ⟨g,0,none⟩))∧w.heap.size≤g∧IsTb (fun b=>w.heap.size≤b∧b<w'.heap.size) w' g H∧Below w.heap.size w w':=by
 have HC:=qBK (qG2 A n c H w hl h hn);have HL:=qBK hl;have HK:=qBK (sq_ok h);clear hl h
 go_enter Tryz.func61,Tryz.ntmps61
 go_wp2_with (first
  |(go_at_call 66
    refine HC.out.mono ?_;rintro e w1 ⟨v1,rfl,ho1,hb1⟩;rw[←HL.out] at ho1;obtain⟨A1,c1,rfl,-,-,-⟩:=qHb ho1 HK.out;have HO1:=qBK ho1;have HB1:=qBK hb1;have hs1:=hb1.size;clear ho1 hb1))
 go_ret;refine⟨w1.heap.size,rfl,hs1,⟨_,qBl rfl,⟨hs1,by simp⟩,fun e=> ?_,fun b e=> ?_,?_,HK.out⟩,HB1.out.alloc hs1 _⟩
 · have:=(HO1.out.lt _ e).2
   omega
 · have:=HO1.out.lt _ e
   exact⟨this.1,by simp;omega⟩
 · have:=qBs HO1.out (w':=w1.alloc (.cells #[.slice A1 H.length c1] 192)) fun b e=>qBX _ _ _ (HO1.out.lt b e).2
   exact⟨this.1,this.2.imp id fun⟨g,cap,cur,e,q1,q2⟩=>⟨g,cap,cur,e,qBU _,q2⟩⟩
theorem qLN {H:List Hnd} (g:Nat) (w:World) (h:IsTb S w g H) (hn:H.length≤1000000):
 Calls Tryz.prog 75 #[.pointer (some ⟨g,0,none⟩)] w fun e w'=>∃v,e= .returned v∧w'.ownsRow w.heap.size 102 3 v H.length (Hcs H)∧Below w.heap.size w w':=by
 obtain⟨v,hb,-,-,-,hO,ok⟩:=h;obtain⟨A,c,rfl,-,-,hsq⟩:=qHb hO ok;have HC:=qBK (qG2 A H.length c H w rfl (hsq.wide fun b hb=>hb.2.2) hn);have c0:=hb.cell 0;clear hO hsq;generalize H.length=n at*
 go_enter Tryz.func75,Tryz.ntmps75
 go_wp2_with (first
  |(go_at_call 66
    refine HC.out.mono ?_;rintro e w1 ⟨v1,rfl,ho1,hb1⟩;have HO1:=qBK ho1;have HB1:=qBK hb1;clear ho1 hb1))
 go_ret;exact⟨_,rfl,HO1.out,HB1.out⟩
def opnB (H:List Hnd) (n:Nat):Bool:=
 match H[n]? with
 |none=>false
 |some h=>h.opn
def useA (H:List Hnd) (n:Nat):Nat×Int:=
 match H[n]? with
 |none=>(0,7)
 |some h=>if h.opn=true then (h.desc,0) else (0,7)
def closeH (H:List Hnd) (n:Nat):List Hnd:=
 match H[n]? with
 |none=>H
 |some h=>H.set n {h with opn:=false}
def arN (op:Int) (a b:Nat):Option Nat:=
 if op=8 then some ((a+b) % 18446744073709551616) else
 if op=9 then some ((a+(18446744073709551616-b)) % 18446744073709551616) else
 if op=10 then some (a*b % 18446744073709551616) else
 if op=13 then some (a &&& b) else
 if op=14 then some (a ||| b) else
 if op=15 then some (a ^^^ b) else
 if op=16 then some (a*2 ^ (b % 64) % 18446744073709551616) else
 if op=17 then some (a / 2 ^ (b % 64)) else
 if op=18 then some ((a+b) % 4294967296) else
 if op=19 then some (a % 4294967296*(b % 4294967296) % 4294967296) else
 if op=20 then some (if a=b then 1 else 0) else
 if op=21 then some (if a<b then 1 else 0) else
 if op=11∨op=12 then if b=0 then none else some (if op=12 then a % b else a / b) else
 none
def arV (o:Option Nat):Value:= .tuple #[.int .u64 ((o.getD 0:Nat):Int),.int .u64 0,.bool o.isSome]
def sx (v:Nat):Int:=if v % 65536<32768 then ((v % 65536:Nat):Int) else ((v % 65536:Nat):Int)-65536
def tw (n:Int):Nat:=(n % 18446744073709551616).toNat
def cxRe (a b:Nat):Nat:=tw (sx a*sx b-sx (a / 65536)*sx (b / 65536))
def cxIm (a b:Nat):Nat:=tw (sx a*sx (b / 65536)+sx (a / 65536)*sx b)
def namedB (m:Mod) (f:Fn) (i:Ins):Bool:=
 if i.1=0 then decide (i.2.1<(m.ints.length:Int))
 else if i.1=1 then decide (i.2.1<(m.texts.length:Int))
 else if i.1=3∨i.1=4 then decide (i.2.1<(f.args.length:Int)+(f.locs.length:Int))
 else if i.1=23∨i.1=24 then decide (i.2.1<(f.code.length:Int))
 else if i.1=25 then decide (i.2.1<(m.funcs.length:Int))
 else if i.1=27 then decide (i.2.1<(m.imps.length:Int))
 else if i.1=28 then decide (i.2.1<(m.recs.length:Int))
 else if i.1=29∨i.1=30 then (match m.recs[i.2.1.toNat]? with|some r=>decide (i.2.2<(r.length:Int))|none=>false)
 else true
def hanB (t:Typ):Bool:=decide (t.1=5)
def hostB (t:Typ):Bool:=decide (t.1=1∨t.1=5)
def badFn (m:Mod) (f:Fn):Bool:=f.locs.any hanB || f.code.any fun i=> !namedB m f i
def badImp (i:Imp):Bool:=i.args.any (fun t=> !hostB t) || !hostB i.ret
def badM (m:Mod):Bool:=m.funcs.any (badFn m) || m.imps.any badImp
def checkN (m:Mod):Int:=if fitB m=false then 2 else if badM m=true then 1 else 0
def mainB (m:Mod):Bool:=decide (checkN m=0) && (match m.funcs with|f::_=>decide (f.args.length=0) && decide (f.ret.1=1)|[]=>false)
theorem qEg (h:fitB m=false):checkN m=2:=by simp[checkN,h]
theorem qGA (h:fitB m=true) (hb:badM m=true):checkN m=1:=by simp[checkN,h,hb]
theorem qD8 (h:checkN m≠0):mainB m=false:=by simp[mainB,h]
theorem qGn {fs:List Fn} (h:checkN m=0) (hf:m.funcs=f::fs):mainB m=(decide (f.args.length=0) && decide (f.ret.1=1)):=by simp[mainB,h,hf]
theorem qBo (h:checkN m=0):fitB m=true:=by
 cases hf:fitB m
 · rw[qEg hf] at h;cases h
 · rfl
theorem qG9 (hf:f∈m.funcs) (h:badFn m f=true):badM m=true:=by
 rw[badM,Bool.or_eq_true];exact .inl (List.any_eq_true.2 ⟨f,hf,h⟩)
theorem bad_loc (ht:t∈f.locs) (h:hanB t=true):badFn m f=true:=by
 rw[badFn,Bool.or_eq_true];exact .inl (List.any_eq_true.2 ⟨t,ht,h⟩)
theorem qOi {t:Ins} (ht:t∈f.code) (h:namedB m f t=false):badFn m f=true:=by
 rw[badFn,Bool.or_eq_true];exact .inr (List.any_eq_true.2 ⟨t,ht,by rw[h];rfl⟩)
theorem qOl {x:α} (h:(xs.take k).any g=false) (hx:xs[k]? =some x) (hg:g x=false):(xs.take (k+1)).any g=false:=by
 obtain⟨hk,rfl⟩:=qBM.1 hx;rw[qBW hk,List.any_append,h];simp[hg]
theorem qOm {x:α} (hx:x∈xs) (hg:g x=true):xs.any g=true:=List.any_eq_true.2 ⟨x,hx,hg⟩
theorem qOn {n:Nat} (h:(xs.take n).any g=false) (hl:xs.length=n):xs.any g=false:=by
 rwa [qBS (by omega)] at h
theorem dge (a b:Int):decide (b≤a)= !decide (a<b):=by rw[Bool.eq_iff_iff];simp
def subT (a b:Typ):Bool:=subB a.1 a.2 b.1 b.2
def belowT:List Typ→List Typ→Bool
 |[],[]=>true
 |a::xs,b::ys=>subT a b && belowT xs ys
 |_,_=>false
def locB (f:Fn) (n:Int):Typ:=if n<0 then (8,0) else ((f.args++f.locs)[n.toNat]?).getD (8,0)
def fldB (m:Mod) (a b:Int):Typ:=(((m.recs[a.toNat]?).getD [])[b.toNat]?).getD (0,0)
def ruleB (m:Mod) (f:Fn) (i:Ins) (s:List Typ):Option (List Typ×List Typ):=
 if i.1=0 then some ([],[(1,0)])
 else if i.1=1 then some ([],[(2,0)])
 else if i.1=2 then some ([],[(6,0)])
 else if i.1=3 then some ([],[locB f i.2.1])
 else if i.1=4 then some ([locB f i.2.1],[])
 else if i.1=5 then some ([(8,0)],[])
 else if i.1=6 then (match s.reverse with|x::_=>some ([x],[x,x])|_=>none)
 else if i.1=7 then (match s.reverse with|x::y::_=>some ([y,x],[x,y])|_=>none)
 else if i.1=22 then some ([(1,0),(1,0)],[(1,0),(1,0)])
 else if i.1=23 then some ([],[])
 else if i.1=24 then some ([(1,0)],[])
 else if i.1=25 then (match m.funcs[i.2.1.toNat]? with|some g=>some (g.args,[g.ret])|none=>none)
 else if i.1=26 then some ([f.ret],[])
 else if i.1=27 then (match m.imps[i.2.1.toNat]? with|some g=>some (g.args,[g.ret])|none=>none)
 else if i.1=28 then (match m.recs[i.2.1.toNat]? with|some r=>some (r,[(4,i.2.1)])|none=>none)
 else if i.1=29 then some ([(4,i.2.1)],[fldB m i.2.1 i.2.2])
 else if i.1=30 then some ([(4,i.2.1),fldB m i.2.1 i.2.2],[])
 else if i.1=31 then some ([(1,0)],[(3,0)])
 else if i.1=32 then some ([(3,0),(1,0)],[(1,0)])
 else if i.1=33 then some ([(3,0),(1,0),(1,0)],[])
 else if i.1=34 then some ([(3,0)],[(1,0)])
 else if i.1=35 then some ([(1,0)],[(2,0)])
 else if i.1=36 then some ([(2,0),(1,0)],[(1,0)])
 else if i.1=37 then some ([(2,0),(1,0),(1,0)],[])
 else if i.1=38 then some ([(2,0)],[(1,0)])
 else if i.1=39 then some ([(7,0)],[(1,0)])
 else if i.1=40 then some ([(7,0),(7,0)],[(1,0)])
 else if i.1=41 then (match s.reverse with|x::_=>if x.1=5 then some ([x],[]) else none|_=>none)
 else some ([(1,0),(1,0)],[(1,0)])
def movB (s ins outs:List Typ):Option (List Typ):=
 if ins.length≤s.length∧s.length-ins.length+outs.length≤8∧belowT (s.drop (s.length-ins.length)) ins=true then some (s.take (s.length-ins.length)++outs) else none
def nextB (f:Fn) (i:Ins) (pc:Nat):Option (List Int):=
 if i.1=26 then some [] else if i.1=23 then some [i.2.1] else if f.code.length≤pc+1 then none else if i.1=24 then some [(pc:Int)+1,i.2.1] else some [(pc:Int)+1]
def insB8 (m:Mod) (f:Fn) (i:Ins) (pc:Nat) (s:List Typ):Int×List Typ×List Int:=
 match ruleB m f i s with
 |none=>(4,[],[])
 |some (ins,outs)=>match movB s ins outs with
  |none=>(4,[],[])
  |some t=>match nextB f i pc with
   |none=>(1,[],[])
   |some l=>(0,t,l)
def flowB (m:Mod) (f pc:Int) (s:List Typ):Int×List Typ×List Int:=
 if checkN m≠0∨f<0∨pc<0 then (1,[],[])
 else match m.funcs[f.toNat]? with
  |none=>(1,[],[])
  |some fn=>match fn.code[pc.toNat]? with
   |none=>(1,[],[])
   |some i=>insB8 m fn i pc.toNat s
theorem qCv (a:Typ):subT a a=true:=by simp[subT,subB]
theorem qJX {a b c:Typ} (h1:subT a b=true) (h2:subT b c=true):subT a c=true:=by
 obtain⟨a,a'⟩:=a;obtain⟨b,b'⟩:=b;obtain⟨c,c'⟩:=c;simp only[subT,subB,refB,Bool.or_eq_true,Bool.and_eq_true,beq_iff_eq] at h1 h2⊢
 omega
theorem qCO (h:belowT a b=true):a.length=b.length:=by
 induction a generalizing b with
 |nil=>cases b<;>simp[belowT] at h⊢
 |cons x a ih=>
  cases b with
  |nil=>simp[belowT] at h
  |cons y b=>simp only[belowT,Bool.and_eq_true] at h;simp[ih h.2]
theorem qFA (a:List Typ):belowT a a=true:=by
 induction a with
 |nil=>rfl
 |cons x a ih=>simp[belowT,qCv,ih]
theorem qDe {c:List Typ} (h1:belowT a b=true) (h2:belowT b c=true):belowT a c=true:=by
 induction a generalizing b c with
 |nil=>cases b<;>cases c<;>simp[belowT] at h1 h2⊢
 |cons x a ih=>
  cases b with
  |nil=>simp[belowT] at h1
  |cons y b=>
   cases c with
   |nil=>simp[belowT] at h2
   |cons z c=>
    simp only[belowT,Bool.and_eq_true] at h1 h2⊢;exact⟨qJX h1.1 h2.1,ih h1.2 h2.2⟩
theorem qGC {c d:List Typ} (h1:belowT a b=true) (h2:belowT c d=true):belowT (a++c) (b++d)=true:=by
 induction a generalizing b with
 |nil=>cases b<;>simp[belowT] at h1 ⊢;exact h2
 |cons x a ih=>
  cases b with
  |nil=>simp[belowT] at h1
  |cons y b=>
   simp only[belowT,Bool.and_eq_true,List.cons_append] at h1⊢;exact⟨h1.1,ih h1.2⟩
theorem qE9 (h:belowT a b=true) (n:Nat):belowT (a.take n) (b.take n)=true:=by
 induction a generalizing b n with
 |nil=>cases b<;>simp[belowT] at h⊢
 |cons x a ih=>
  cases b with
  |nil=>simp[belowT] at h
  |cons y b=>
   simp only[belowT,Bool.and_eq_true] at h
   cases n with
   |zero=>rfl
   |succ n=>simp only[List.take_succ_cons,belowT,Bool.and_eq_true];exact⟨h.1,ih h.2 n⟩
theorem qFB (h:belowT a b=true) (n:Nat):belowT (a.drop n) (b.drop n)=true:=by
 induction a generalizing b n with
 |nil=>cases b<;>simp[belowT] at h⊢
 |cons x a ih=>
  cases b with
  |nil=>simp[belowT] at h
  |cons y b=>
   cases n with
   |zero=>exact h
   |succ n=>
    simp only[belowT,Bool.and_eq_true] at h;simpa using ih h.2 n
theorem qDz (h:belowT (a++[x]) (b++[y])=true):belowT a b=true∧subT x y=true:=by
 have hl:=qCO h;simp at hl;refine⟨?_,?_⟩
 · have:=qE9 h a.length
   rwa [List.take_append_of_le_length (qBL _),List.take_length,hl,List.take_append_of_le_length (qBL _),List.take_length] at this
 · have:=qFB h a.length
   rw[List.drop_append_of_le_length (qBL _),List.drop_length,hl,List.drop_append_of_le_length (qBL _),List.drop_length] at this;simpa[belowT] using this
theorem qJh {i:Ins} {ins outs:List Typ} (h:belowT a b=true) (hr:ruleB m f i b=some (ins,outs)):
 ∃ins' outs',ruleB m f i a=some (ins',outs')∧ins'.length=ins.length∧belowT outs' outs=true∧(belowT (b.drop (b.length-ins.length)) ins=true→belowT (a.drop (a.length-ins'.length)) ins'=true):=by
 have hlen:=qCO h;have same:ruleB m f i a=ruleB m f i b→∃ins' outs',ruleB m f i a=some (ins',outs')∧ins'.length=ins.length∧belowT outs' outs=true∧(belowT (b.drop (b.length-ins.length)) ins=true→belowT (a.drop (a.length-ins'.length)) ins'=true):=fun e=>
  ⟨ins,outs,by rw[e,hr],rfl,qFA _,fun hb=>qDe (by rw[hlen];exact qFB h _) hb⟩
 have tops:∀{y:Typ} {r:List Typ},b.reverse=y::r→∃x q,a.reverse=x::q∧subT x y=true∧belowT q.reverse r.reverse=true:=fun {y r} hb=>by
  cases ha:a.reverse with
  |nil=>
   have e1:=congrArg List.length ha;have e2:=congrArg List.length hb;rw[List.length_reverse] at e1 e2;simp only[List.length_nil,List.length_cons] at e1 e2
   omega
  |cons x q=>
   have ea:a=q.reverse++[x]:=by rw[←List.reverse_reverse a,ha];simp
   have eb:b=r.reverse++[y]:=by rw[←List.reverse_reverse b,hb];simp
   rw[ea,eb] at h;exact⟨x,q,rfl,(qDz h).2,(qDz h).1⟩
 have end1:∀{x:Typ} {q:List Typ},a.reverse=x::q→a.drop (a.length-1)=[x]:=fun {x q} ha=>by
  have ea:a=q.reverse++[x]:=by rw[←List.reverse_reverse a,ha];simp
  rw[ea];simp
 have end2:∀{x y:Typ} {q:List Typ},a.reverse=x::y::q→a.drop (a.length-2)=[y,x]:=fun {x y q} ha=>by
  have ea:a=q.reverse++[y,x]:=by rw[←List.reverse_reverse a,ha];simp
  rw[ea];simp
 by_cases h6:i.1=6
 · cases hb:b.reverse with
   |nil=>simp[ruleB,h6,hb] at hr
   |cons y r=>
    obtain⟨x,q,ha,hs,-⟩:=tops hb;simp[ruleB,h6,hb] at hr;obtain⟨rfl,rfl⟩:=hr;exact⟨[x],[x,x],by simp[ruleB,h6,ha],rfl,by simp[belowT,hs],fun _=>by rw[List.length_singleton,end1 ha];simp[belowT,qCv]⟩
 by_cases h7:i.1=7
 · cases hb:b.reverse with
   |nil=>simp[ruleB,h7,hb] at hr
   |cons y r=>
    cases r with
    |nil=>simp[ruleB,h7,hb] at hr
    |cons y2 r=>
     obtain⟨x,q,ha,hs,hq⟩:=tops hb
     cases q with
     |nil=>
      have:=qCO hq;simp at this
     |cons x2 q=>
      simp only[List.reverse_cons] at hq;have hs2:=(qDz hq).2;simp[ruleB,h7,hb] at hr;obtain⟨rfl,rfl⟩:=hr;exact⟨[x2,x],[x,x2],by simp[ruleB,h7,ha],rfl,by simp[belowT,hs,hs2],fun _=>by rw[show[x2,x].length=2 from rfl,end2 ha];simp[belowT,qCv]⟩
 by_cases h41:i.1=41
 · cases hb:b.reverse with
   |nil=>simp[ruleB,h41,hb] at hr
   |cons y r=>
    obtain⟨x,q,ha,hs,-⟩:=tops hb
    by_cases hy:y.1=5
    · have hx:x.1=5:=by
       simp only[subT,subB,refB,Bool.or_eq_true,Bool.and_eq_true,beq_iff_eq] at hs
       omega
      simp[ruleB,h41,hb,hy] at hr;obtain⟨rfl,rfl⟩:=hr;exact⟨[x],[],by simp[ruleB,h41,ha,hx],rfl,rfl,fun _=>by rw[List.length_singleton,end1 ha];simp[belowT,qCv]⟩
    · simp[ruleB,h41,hb,hy] at hr
 · exact same (by simp only[ruleB,h6,h7,h41,if_false])
theorem qLq {i:Ins} {pc:Nat} {t:List Typ} {l:List Int} (h:belowT a b=true) (hf:insB8 m f i pc b=(0,t,l)):∃s,insB8 m f i pc a=(0,s,l)∧belowT s t=true:=by
 have hlen:=qCO h
 cases hr:ruleB m f i b with
 |none=>simp[insB8,hr] at hf
 |some p=>
  obtain⟨ins,outs⟩:=p;obtain⟨ins',outs',hr',hl,ho,hb⟩:=qJh h hr;have hol:=qCO ho
  cases hm:movB b ins outs with
  |none=>simp[insB8,hr,hm] at hf
  |some u=>
   cases hn:nextB f i pc with
   |none=>simp[insB8,hr,hm,hn] at hf
   |some q=>
    simp[insB8,hr,hm,hn] at hf;obtain⟨rfl,rfl⟩:=hf;unfold movB at hm;split at hm
    · rename_i hc
      obtain⟨c1,c2,c3⟩:=hc;injection hm with hm;subst hm;refine⟨a.take (a.length-ins'.length)++outs',?_,qGC (by rw[hlen,hl];exact qE9 h _) ho⟩;simp only[insB8,hr',hn,movB];rw[if_pos ⟨by omega,by omega,hb c3⟩]
    · cases hm
theorem qKW {xs:List Typ} (h:belowT (xs.take k) (ys.take k)=true) (hx:xs[k]? =some x) (hy:ys[k]? =some y) (hs:subT x y=true):belowT (xs.take (k+1)) (ys.take (k+1))=true:=by
 obtain⟨hk,rfl⟩:=qBM.1 hx;obtain⟨hk2,rfl⟩:=qBM.1 hy;rw[qBW hk,qBW hk2];exact qGC h (by simp[belowT,hs])
theorem qMY {xs:List Typ} (hx:xs[k]? =some x) (hy:ys[k]? =some y) (hs:subT x y=false):belowT xs ys=false:=by
 induction xs generalizing ys k with
 |nil=>simp at hx
 |cons a xs ih=>
  cases ys with
  |nil=>rfl
  |cons b ys=>
   cases k with
   |zero=>simp at hx hy;subst hx hy;simp[belowT,hs]
   |succ k=>simp only[belowT,ih (k:=k) (by simpa using hx) (by simpa using hy),Bool.and_false]
theorem qGR {xs:List Typ} (h:xs.length≠ys.length):belowT xs ys=false:=by
 cases hb:belowT xs ys
 · rfl
 · exact absurd (qCO hb) h
def T2:List Typ→List Value
 |[]=>[]
 |t::ts=> .int .i64 t.1:: .int .i64 t.2::T2 ts
theorem T2_app (ts us:List Typ):T2 (ts++us)=T2 ts++T2 us:=by
 induction ts with
 |nil=>rfl
 |cons t ts ih=>simp[T2,ih]
theorem qEx (ts:List Typ):(T2 ts).length=ts.length*2:=by
 induction ts with
 |nil=>rfl
 |cons t ts ih=>simp[T2,ih];omega
theorem qFP (h:ts[j]? =some t):(T2 ts)[j*2]? =some (.int .i64 t.1):=by
 induction ts generalizing j with
 |nil=>simp at h
 |cons u ts ih=>
  cases j with
  |zero=>simp at h;subst h;simp[T2]
  |succ j=>rw[show(j+1)*2=j*2+1+1 by omega];simp[T2];exact ih qy
theorem qFO (h:ts[j]? =some t):(T2 ts)[j*2+1]? =some (.int .i64 t.2):=by
 induction ts generalizing j with
 |nil=>simp at h
 |cons u ts ih=>
  cases j with
  |zero=>simp at h;subst h;simp[T2]
  |succ j=>rw[show(j+1)*2+1=j*2+1+1+1 by omega];simp[T2];exact ih qy
theorem T2_one (ts:List Typ):∀u∈T2 ts,u.oneCell'=true:=by
 induction ts with
 |nil=>simp[T2]
 |cons t ts ih=>
  intro u hu;simp only[T2,List.mem_cons] at hu;rcases hu with rfl|rfl|hu
  · rfl
  · rfl
  · exact ih u hu
def A64 (ts:List Typ):Prop:=∀t∈ts,I64 t.1∧I64 t.2
theorem A64.app {us:List Typ} (h:A64 ts) (h':A64 us):A64 (ts++us):=fun t ht=>by
 rcases List.mem_append.1 ht with h1|h1
 · exact h t h1
 · exact h' t h1
theorem A64.take (h:A64 ts) (k:Nat):A64 (ts.take k):=fun t ht=>h t (List.mem_of_mem_take ht)
theorem A64.drop (h:A64 ts) (k:Nat):A64 (ts.drop k):=fun t ht=>h t (List.mem_of_mem_drop ht)
theorem A64.nil:A64 []:=fun t ht=>by simp at ht
theorem A64.one (h:I64 t.1) (h':I64 t.2):A64 [t]:=fun u hu=>by simp at hu;subst hu;exact⟨h,h'⟩
theorem Sq.a64 (h:Sq typL S w A ts):A64 ts:=fun t ht=>by
 obtain⟨j,hj⟩:=qBk.1 ht;obtain⟨a,cs,-,-,-,hr⟩:=h.at hj;exact hr.2
theorem Sq.take {L:Lay α} (h:Sq L S w A xs) (k:Nat):Sq L S w A (xs.take k):=fun hn=>by
 have hl:(xs.take k).length≤xs.length:=by simp;omega
 obtain⟨a,e,hs,hc⟩:=h (by omega);refine⟨a,e,hs,fun j x hx=>hc j x ?_⟩;have hj:j<k:=by
  have:=(qBM.1 hx).1;simp at this
  omega
 rwa [List.getElem?_take_of_lt hj] at hx
theorem Sq.drop {L:Lay α} (h:Sq L S w A xs) (k:Nat):Sq L S w (A.map (·.add (k*L.k))) (xs.drop k):=fun hn=>by
 have hl:(xs.drop k).length=xs.length-k:=by simp
 obtain⟨a,e,hs,hc⟩:=h (by omega);refine⟨a.add (k*L.k),by rw[e];rfl,by rw[qBn];exact hs,fun j x hx=> ?_⟩;rw[List.getElem?_drop] at hx;obtain⟨cs,h1,h2⟩:=hc (k+j) x hx;refine⟨cs,fun i u hu=> ?_,h2⟩;rw[qET,←h1 i u hu,Nat.add_mul,Nat.add_assoc]
theorem qFk {base n:Nat} {v:Value} (h:w.ownsRow base 61 2 v n (T2 ts)) (ha:A64 ts):
 ∃A c,v= .slice A n c∧n=ts.length∧n≤c∧c≤maxLen∧Sq typL (fun b=>base≤b∧b<w.heap.size) w A ts:=by
 have hn:n=ts.length:=by have:=h.1;rw[qEx] at this;omega
 rcases h.2 with⟨rfl,h0⟩|⟨g,cap,cur,rfl,hb,hg,hnc,hcm,_,_⟩
 · refine⟨none,0,by rw[h0],hn,by omega,by simp[maxLen],fun hpos=>absurd hpos (by omega)⟩
 · refine⟨some ⟨g,0,none⟩,cap,rfl,hn,hnc,hcm,fun _=>⟨⟨g,0,none⟩,rfl,⟨hb,(Array.getElem?_eq_some_iff.1 hg).1⟩,fun j t hj=>⟨_,fun i u hu=> ?_,rfl,ha t (qBQ hj)⟩⟩⟩
   match i,hu with
   |0,hu=>simp at hu;subst hu;exact h.cells rfl (j*2) _ (qFP hj)
   |1,hu=>simp at hu;subst hu;exact h.cells rfl (j*2+1) _ (qFO hj)
   |i+2,hu=>simp at hu
theorem qGL (w:World):(w.alloc (.cells #[] 61)).ownsRow w.heap.size 61 2 (.slice (some ⟨w.heap.size,0,none⟩) 0 0) 0 (T2 []):=
 World.ownsRow_made w #[] 0 (qBL _) (by simp[maxLen]) (by simp)
theorem qMo {a:Addr} (h:Sq typL S w (some a) ts):∀j u,(T2 ts)[j]? =some u→w.cell? (a.add j)=some u:=fun j u hu=>by
 have hj:=(qBM.1 hu).1;rw[qEx] at hj;obtain⟨a',e,-,hc⟩:=h (by omega);injection e with e;subst e;obtain⟨t,ht⟩:∃t,ts[j / 2]? =some t:=⟨ts[j / 2]'(by omega),List.getElem?_eq_getElem _⟩;obtain⟨cs,h1,rfl,-⟩:=hc _ t ht;rcases Nat.mod_two_eq_zero_or_one j with e|e
 · have ej:j=j / 2*2:=by omega
   have k0:=h1 0 _ rfl;rw[ej,qFP ht] at hu;injection hu with hu;subst hu;rw[show j / 2*typL.k+0=j by show j / 2*2+0=j;omega] at k0;exact k0
 · have ej:j=j / 2*2+1:=by omega
   have k0:=h1 1 _ rfl;rw[ej,qFO ht] at hu;injection hu with hu;subst hu;rw[show j / 2*typL.k+1=j by show j / 2*2+1=j;omega] at k0;exact k0
theorem qH1:(Tryz.prog.info? 61).map (fun i=>(i.zero,i.size,i.bytes))=some (some (.agg #[.int .i64 0,.int .i64 0]),2,16):=by kernel_rfl
theorem qFe (w:World) (base ty:Nat) (v:Value) (n:Nat) (xs:List Typ) (hown:w.ownsRow base 61 2 v n (T2 xs)) (A:Option Addr) (m c:Nat) (ys:List Typ) (hm:ys.length=m)
 (S:Nat→Prop) (hy:Sq typL S w A ys) (hbig:n+m≤1000000000) (hbase:base≤w.heap.size):
 ∃v' w',(Builtin.append_ #[62,62] ty #[v,.slice A m c]).run Tryz.prog w= .ok v' w'∧w'.ownsRow base 61 2 v' (n+m) (T2 (xs++ys))∧w.grownBy w' v.ownBlock∧
  (v'.ownBlock=v.ownBlock∨v'.ownBlock=some w.heap.size):=by
 obtain⟨i0,hi0,hz0,hz1,hz2⟩:=info_parts qH1;rw[T2_app];rcases A with _|a
 · have h0:m=0:=by
    rcases Nat.eq_zero_or_pos m with h|h
    · exact h
    · obtain⟨a,h,_⟩:=hy (by omega)
      cases h
   subst h0;obtain rfl:ys=[]:=qBY hm;refine⟨v,w,?_,by simpa[T2] using hown,⟨rfl,rfl,rfl,qBL _,fun _ _ _=>rfl⟩,.inl rfl⟩;have ht:=run_underlying (P:=Tryz.prog) (w:=w) Tryz.underlying62;exact zE
 · obtain⟨v',w',hrun,h2,h3,_,h5⟩:=run_append_own_at (P:=Tryz.prog) w base 62 ty 61 i0 (.agg #[.int .i64 0,.int .i64 0]) 2 16 Tryz.underlying62 hi0 hz0 hz1 hz2 rfl (by omega) v n (T2 xs) hown a m c (T2 ys) (by rw[qEx];omega) (qMo hy) (T2_one ys)
    zM (by omega) hbase
   exact⟨v',w',hrun,h2,h3,h5⟩
theorem qDi (w:World) {ops:Array Oper} {rest:List Oper} {o:Oper} {a:Act} {Q:Exit→Act→World→Prop} (hgd:o.guard=none) (s x:Operand)
 (ho:o.op= .call {callee:= .builtin .append,args:= #[s,x],argTypes:= #[62,62]})
 (base:Nat) (v:Value) (n:Nat) (xs:List Typ) (hs:a.eval s=v) (hown:w.ownsRow base 61 2 v n (T2 xs)) (A:Option Addr) (m c:Nat) (ys:List Typ) (hx:a.eval x= .slice A m c) (hm:ys.length=m)
 (S:Nat→Prop) (hy:Sq typL S w A ys) (hbig:n+m≤1000000000) (hbase:base≤w.heap.size)
 (h:∀v' w',w'.ownsRow base 61 2 v' (n+m) (T2 (xs++ys))→w.grownBy w' v.ownBlock→(v'.ownBlock=v.ownBlock∨v'.ownBlock=some w.heap.size)→wpList Tryz.prog ops Q rest (a.put o.dst v') w'):
 wpList Tryz.prog ops Q (o::rest) a w:=by
 refine wpList_plain hgd fun _ hK=> ?_;obtain⟨v',w',hrun,h2,h3,h4⟩:=qFe w base o.type v n xs hown A m c ys hm S hy hbig hbase;unfold Oper.wp execOp;simp only[ho,resolve,invoke,builtin,Sem.run_bind,Sem.run_pure,Result.andThen_ok,List.map_toArray,List.map_cons,List.map_nil,hs,hx,hrun];exact hK _ _ (h v' w' h2 h3 h4)
theorem qGF (w:World) {ops:Array Oper} {rest:List Oper} {o:Oper} {a:Act} {Q:Exit→Act→World→Prop} (hgd:o.guard=none) (s x:Operand)
 (ho:o.op= .call {callee:= .builtin .append,args:= #[s,x],argTypes:= #[62,3]})
 (n:Nat) (h0:0<n) (hn:n≤1000000000) (hs:a.eval s= .slice none 0 0) (hx:a.eval x= .int .i64 (n:Nat))
 (h:∀G w',n≤G→G≤maxLen→w'.ownsRow w.heap.size 61 2 (.slice (some ⟨w.heap.size,0,none⟩) 0 G) 0 (T2 [])→Below w.heap.size w w'→wpList Tryz.prog ops Q rest (a.put o.dst (.slice (some ⟨w.heap.size,0,none⟩) n G)) w'):
 wpList Tryz.prog ops Q (o::rest) a w:=by
 obtain⟨i0,hi0,hz0,hz1,hz2⟩:=info_parts qH1;refine wpList_plain hgd fun _ hK=> ?_;have hrun:=Lib.run_append_nil_zeros (P:=Tryz.prog) w 62 3 o.type 61 i0 (.agg #[.int .i64 0,.int .i64 0]) .i64 .i64 Tryz.underlying62 Tryz.underlying3 hi0 hz0 n h0 (by omega) (by omega) (by rw[hz2];omega);have hG:=grownCap_ge w n 0 61;have hG2:=grownCap_le_maxLen w n 0 61 (by unfold maxLen;omega);generalize grownCap w n 0 61=G at hrun hG hG2;unfold Oper.wp execOp;simp only[ho,resolve,invoke,builtin,Sem.run_bind,Sem.run_pure,Result.andThen_ok,List.map_toArray,List.map_cons,List.map_nil,hs,hx,hrun];refine hK _ _ (h G _ hG hG2 ?_ ((qBO _ w).drew.alloc (qBL _) _));refine World.ownsRow_made (base:=w.heap.size) (e:=61) (size:=2) w.drew _ G (qBL _) hG2 ?_;simp[Builtin.zeroCells,Value.cells]
 omega
def Is (l:List Int):List Value:=l.map fun x=>Value.int .i64 x
theorem qMd (l:List Int):(Is l).length=l.length:=by simp[Is]
theorem Is_get {l:List Int} {x:Int} (h:l[j]? =some x):(Is l)[j]? =some (.int .i64 x):=by simp[Is,h]
theorem qJN (A:Option Addr) (n c:Nat) (xs:List Typ) (lo hi:Int) (g:Typ→Bool) (p7:Addr) (w:World) (hl:xs.length=n) (h:Sq typL (·<w.heap.size) w A xs) (hn2:n≤9223372036854775807) (hlo: -1000≤lo∧lo≤1000) (hhi: -9223372036854775808≤hi∧hi≤1000)
 (hG:∀(w1:World) (cs:List Value) (x:Typ),Below w.heap.size w w1→x∈xs→typL.R (·<w1.heap.size) w1 cs x→Calls Tryz.prog 164 #[vAgg cs,.pointer (some p7)] w1 (Tells (g x) w1)):
 Calls Tryz.prog 167 #[.slice A n c,.int .i64 lo,.int .i64 hi,.func (.func 164) #[] #[.pointer (some p7)]] w (Tells (witB lo hi g xs) w):=by
 refine jV ?_;intro HL HS HP0 HW;clear hl h hG;refine qBE ?_;intro wb hwb;rw[hwb] at HW⊢;clear hwb
 by_cases h1:(n:Int)<lo
 · refine qAU ?_;intro e
   rw[e];clear HW e
   go_enter Tryz.func167,Tryz.ntmps167
   exact qZ
 by_cases h2:hi<(n:Int)
 · refine qAU ?_;intro e
   rw[e];clear HW e
   go_enter Tryz.func167,Tryz.ntmps167
   exact qZ
 replace HW:Hid (wb=xs.all g):=by
  show wb=xs.all g
  rw[HW.out];simp
  omega
 go_enter Tryz.func167,Tryz.ntmps167
 go_wp2_with fail
 go_loopw [23] (fun i wr=>∃k:Nat,k≤n∧i= .int .i64 (k:Nat)∧(xs.take k).all g=true∧Below w.heap.size w wr) (fun i _=>n-(intOf i).toNat)
 case atStart=>exact⟨0,qBU _,rfl,by simp,qBO _ _⟩
 case round=>
  obtain⟨k,hk,rfl,hall,hbel⟩:=hrel;refine jd ?_;intro HA HB hs;clear hall hbel
  by_cases hlt:k<n
  · skip
    refine jA ?_;intro x hx hmem;obtain⟨a,cs,rfl,hab,hc,hr⟩:=HS.out.at hx;have HX:=qBK hx;clear hx;have HR:=qBK hr;obtain⟨rfl,-,-⟩:=hr;refine jf ?_;intro c0 c1;rw[qBT a (k*2) 1 (by omega)] at c1;have HP:Hid (∀w1,Below w.heap.size w w1→Calls Tryz.prog 164 #[.agg #[.int .i64 x.1,.int .i64 x.2],.pointer (some p7)] w1 (Tells (g x) w1)):=fun w1 hb=>HP0.out w1 [.int .i64 x.1,.int .i64 x.2] x hb hmem (typL.wide (typL.keep HR.out fun b hb1=>hb.block b hb1) fun b hb1=>qBN hb1 hb.size);clear hc
    cases hg:g x
    · rw[hg] at HP
      refine jq ?_;intro e E;clear e hg
      go_wp2_with (first
       |(go_at_call 164
         refine(HP.out _ (HB.out.alloc hs _)).mono ?_;rintro e w2 ⟨rfl,hb2⟩;refine jo ?_;intro Hb2;clear hb2))
      exact zR
    · rw[hg] at HP
      have HG:=qBK hg;clear hg
      go_wp2_with (first
       |(go_at_call 164
         refine(HP.out _ (HB.out.alloc hs _)).mono ?_;rintro e w2 ⟨rfl,hb2⟩;refine jo ?_;intro Hb2;clear hb2))
      exact qe
  · exact qP
theorem qJQ (A:Option Addr) (n c:Nat) (xs:List Ins) (lo hi:Int) (g:Ins→Bool) (w:World) (hl:xs.length=n) (h:Sq insL (·<w.heap.size) w A xs) (hn2:n≤9223372036854775807) (hlo: -1000≤lo∧lo≤1000) (hhi: -9223372036854775808≤hi∧hi≤1000)
 (hG:∀(w1:World) (cs:List Value) (x:Ins),Below w.heap.size w w1→x∈xs→insL.R (·<w1.heap.size) w1 cs x→Calls Tryz.prog 171 #[vAgg cs] w1 (Tells (g x) w1)):
 Calls Tryz.prog 170 #[.slice A n c,.int .i64 lo,.int .i64 hi,.func (.func 171) #[] #[]] w (Tells (witB lo hi g xs) w):=by
 refine jV ?_;intro HL HS HP0 HW;clear hl h hG;refine qBE ?_;intro wb hwb;rw[hwb] at HW⊢;clear hwb
 by_cases h1:(n:Int)<lo
 · refine qAU ?_;intro e
   rw[e];clear HW e
   go_enter Tryz.func170,Tryz.ntmps170
   exact qZ
 by_cases h2:hi<(n:Int)
 · refine qAU ?_;intro e
   rw[e];clear HW e
   go_enter Tryz.func170,Tryz.ntmps170
   exact qZ
 replace HW:Hid (wb=xs.all g):=by
  show wb=xs.all g
  rw[HW.out];simp
  omega
 go_enter Tryz.func170,Tryz.ntmps170
 go_wp2_with fail
 go_loopw [23] (fun i wr=>∃k:Nat,k≤n∧i= .int .i64 (k:Nat)∧(xs.take k).all g=true∧Below w.heap.size w wr) (fun i _=>n-(intOf i).toNat)
 case atStart=>exact⟨0,qBU _,rfl,by simp,qBO _ _⟩
 case round=>
  obtain⟨k,hk,rfl,hall,hbel⟩:=hrel;refine jd ?_;intro HA HB hs;clear hall hbel
  by_cases hlt:k<n
  · skip
    refine jA ?_;intro x hx hmem;obtain⟨a,cs,rfl,hab,hc,hr⟩:=HS.out.at hx;have HX:=qBK hx;clear hx;have HR:=qBK hr;obtain⟨rfl,-,-,-⟩:=hr;refine jY ?_;intro c0 c1;rw[qBT a (k*3) 1 (by omega)] at c1;refine qAQ ?_;intro c2;rw[qBT a (k*3) 2 (by omega)] at c2;have HP:Hid (∀w1,Below w.heap.size w w1→Calls Tryz.prog 171 #[.agg #[.int .i64 x.1,.int .i64 x.2.1,.int .i64 x.2.2]] w1 (Tells (g x) w1)):=fun w1 hb=>HP0.out w1 [.int .i64 x.1,.int .i64 x.2.1,.int .i64 x.2.2] x hb hmem (insL.wide (insL.keep HR.out fun b hb1=>hb.block b hb1) fun b hb1=>qBN hb1 hb.size);clear hc
    cases hg:g x
    · rw[hg] at HP
      refine jq ?_;intro e E;clear e hg
      go_wp2_with (first
       |(go_at_call 171
         refine(HP.out _ (HB.out.alloc hs _)).mono ?_;rintro e w2 ⟨rfl,hb2⟩;refine jo ?_;intro Hb2;clear hb2))
      exact zR
    · rw[hg] at HP
      have HG:=qBK hg;clear hg
      go_wp2_with (first
       |(go_at_call 171
         refine(HP.out _ (HB.out.alloc hs _)).mono ?_;rintro e w2 ⟨rfl,hb2⟩;refine jo ?_;intro Hb2;clear hb2))
      exact qe
  · exact qP
theorem kgood (k n r:Int) (w:World):Calls Tryz.prog 165 #[.agg #[.int .i64 k,.int .i64 n],.int .i64 r] w fun e w'=>e= .returned (.bool (goodB k n r))∧Below w.heap.size w w':=by
 by_cases h1:k=1
 · subst h1
   exact q8
 by_cases h2:k=2
 · subst h2
   exact q8
 by_cases h3:k=3
 · subst h3
   exact q8
 by_cases h7:k=7
 · subst h7
   exact q8
 by_cases h4:k=4
 · subst h4
   by_cases hn:0≤n
   · have e:goodB 4 n r=decide (n<r):=by simp[goodB,hn]
     rw[e];clear e;exact q8
   · have e:goodB 4 n r=false:=by simp[goodB,hn]
     rw[e];clear e;exact q8
 by_cases h5:k=5
 · subst h5
   by_cases hn:0≤n
   · have e:goodB 5 n r=decide (n<4):=by simp[goodB,hn]
     rw[e];clear e;exact q8
   · have e:goodB 5 n r=false:=by simp[goodB,hn]
     rw[e];clear e;exact q8
 have e:goodB k n r=false:=by simp[goodB,h1,h2,h3,h7,h4,h5]
 rw[e];clear e
 go_enter Tryz.func165,Tryz.ntmps165
 go_wp2_with fail
 go_ret;exact⟨rfl,(qBO _ _).alloc (qBL _) _⟩
theorem qDB (op:Int) (w:World):Calls Tryz.prog 233 #[.int .i64 op] w fun e w'=>e= .returned (.int .i64 (argN op))∧w=w':=by
 by_cases hc:op=29∨op=30∨op=0∨op=1∨op=3∨op=4∨op=23∨op=24∨op=25∨op=27∨op=28
 · rcases hc with rfl|rfl|rfl|rfl|rfl|rfl|rfl|rfl|rfl|rfl|rfl
   all_goals
    go_enter Tryz.func233,Tryz.ntmps233
    go_wp2_with fail
    go_ret;exact⟨rfl,rfl⟩
 · obtain⟨n29,n30,n0,n1,n3,n4,n23,n24,n25,n27,n28⟩:op≠29∧op≠30∧op≠0∧op≠1∧op≠3∧op≠4∧op≠23∧op≠24∧op≠25∧op≠27∧op≠28:=by omega
   clear hc
   by_cases hlo:op<0
   · exact zP
   by_cases hhi:42≤op
   · exact zP
   have e:argN op=0:=by unfold argN;rw[if_neg (by omega),if_neg (by omega),if_neg (by omega)]
   rw[e];clear e
   go_enter Tryz.func233,Tryz.ntmps233
   go_wp2_with fail
   go_ret;exact⟨rfl,rfl⟩
theorem qFM (n a b:Int) (w:World):Calls Tryz.prog 234 #[.agg #[.int .i64 a,.int .i64 b],.int .i64 n] w fun e w'=>e= .returned (.bool (fitN n a b))∧Below w.heap.size w w':=by
 have i0:∀w,(Instr.index 297 (.agg #[.int .i64 a,.int .i64 b]) (.int .i64 0)).run Tryz.prog w= .ok (.int .i64 a) w:=fun _=>by kernel_rfl
 have i1:∀w,(Instr.index 297 (.agg #[.int .i64 a,.int .i64 b]) (.int .i64 1)).run Tryz.prog w= .ok (.int .i64 b) w:=fun _=>by kernel_rfl
 unfold fitN
 by_cases h0:0<n
 · rw[if_pos h0]
   by_cases h1:1<n
   · rw[if_pos h1]
     by_cases a0:a<0
     · exact qW
     by_cases a1:255<a
     · exact qW
     by_cases b0:b<0
     · exact qQ
     by_cases b1:255<b
     · exact qQ
     exact zj
   · rw[if_neg h1]
     by_cases a0:a<0
     · exact qW
     by_cases a1:255<a
     · exact qW
     by_cases b0:b<0
     · exact qQ
     by_cases b1:0<b
     · exact qQ
     exact zj
 · rw[if_neg h0,if_neg (by omega)]
   have h1:¬1<n:=by omega
   by_cases a0:a<0
   · exact qW
   by_cases a1:0<a
   · exact qW
   by_cases b0:b<0
   · exact qQ
   by_cases b1:0<b
   · exact qQ
   rw[decide_eq_true (by omega)]
   go_enter Tryz.func234,Tryz.ntmps234
   go_wp2_with fail
   refine wp_loop_rounds 3 ?_;rw[rounds_succ]
   go_wp2_with fail
   rw[rounds_succ]
   go_wp2_with fail
   rw[rounds_succ]
   go_wp2_with fail
   go_ret;exact⟨rfl,(qBO _ _).alloc (qBL _) _⟩
end Go.Proofs.YtgdbhanhmenmfaaGreat
