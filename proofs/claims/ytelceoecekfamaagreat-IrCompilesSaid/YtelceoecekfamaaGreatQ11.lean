/-
Raw Bn Sa7 Fl Irp Tyr Bk0 Bks Fp Knd Eft
-/
import Derived.Test.YtelceoecekfamaaGreatQ01
import Derived.Test.YtelceoecekfamaaGreatQ02
import Derived.Test.YtelceoecekfamaaGreatQ05
import Derived.Test.YtelceoecekfamaaGreatQ06
import Derived.Test.YtelceoecekfamaaGreatQ07
import Derived.Test.YtelceoecekfamaaGreatQ10
import Derived.Deep.RegionLaw
import Derived.Maps.AppendAt
import Derived.Lib.AppendZeros
set_option linter.unusedSimpArgs false
set_option linter.unusedVariables false
set_option maxRecDepth 100000
set_option maxHeartbeats 4000000
namespace Go.Proofs.YtelceoecekfamaaGreat
open Go.RowKit
variable {A:Option Addr}{B:Nat}{α:Type}{L:Lay α}{Q:Exit→Act→World→Prop}{S:Nat→Prop}{a b:List Typ}{c:Array Value}{f:Fn}{g:Nat}{i:Ins}{j k:Nat}{l:List Int}{m:Mod}{o:Oper}{ops:Array Oper}{t:Nat}{ts:List Typ}{ty:Nat}{v:Value}{w:World}{x:Typ}{xs:List Typ}{y:Typ}{ys:List Typ}
theorem qD {P:Prop} (h:P:=by
 go_enter Tryz.func104,Tryz.ntmps104
 go_wp2_with (first|(go_at_call 112;with_reducible refine(A0.out _).mono ?_;rintro e w1 ⟨rfl,hb1⟩;obtain⟨hc1,-⟩:=qBB hb1;have hz1:w.heap.size+1<w1.heap.size:=by {have:=hb1.size;simp at this;omega};have hz0:w.heap.size<w1.heap.size:=by omega)|(go_at_call 112;with_reducible refine(C0.out _).mono ?_;rintro e w2 ⟨rfl,hb2⟩;obtain⟨hc2,-⟩:=qBB hb2))
 go_ret;exact⟨rfl,((((qAk _ _).alloc (qAi _) _).alloc (by simp) _).trans (hb1.mono (by simp;omega))).trans (hb2.mono (by omega))⟩):P:=h
theorem qg {P:Prop} (h:P:=by
 replace A0:=qAg qU;clear hra
 go_enter Tryz.func104,Tryz.ntmps104
 go_wp2_with (first|(go_at_call 112;with_reducible refine(A0.out _).mono ?_;rintro e w1 ⟨rfl,hb1⟩;obtain⟨hc1,-⟩:=qBB hb1;have hz1:w.heap.size+1<w1.heap.size:=by {have:=hb1.size;simp at this;omega};have hz0:w.heap.size<w1.heap.size:=by omega))
 go_ret;exact⟨rfl,(((qAk _ _).alloc (qAi _) _).alloc (by simp) _).trans (hb1.mono qK)⟩):P:=h
theorem zR {P:Prop} (h:P:=by
 go_enter Tryz.func112,Tryz.ntmps112
 exact qC):P:=h
theorem qGl {cs:Array Value} {x:α} (h:Blk w g ty cs) (hg:S g) (hR:L.R S w cs.toList x):(slL L).R S w [.slice (some ⟨g,0,none⟩) 1 1] [x]:=by
 refine⟨some ⟨g,0,none⟩,1,rfl,qAi _,by simp[maxLen],fun _=>⟨_,rfl,hg,fun j y hy=> ?_⟩⟩;have hj:j=0:=by
  rcases Nat.eq_zero_or_pos j with h|h
  · exact h
  · rw[List.getElem?_eq_none qK] at hy
    cases hy
 subst hj;simp at hy;subst hy;refine⟨_,fun i u hu=> ?_,hR⟩;have e:(⟨g,0,none⟩:Addr).add (0*L.k+i)=⟨g,i,none⟩:=by unfold Addr.add;split<;>simp_all
 rw[e,h.cell i];simpa using hu
theorem qCn (L:Lay α) (S:Nat→Prop) (w:World):(slL L).R S w [.slice none 0 0] []:=⟨none,0,rfl,qAi _,by simp[maxLen],Sq.nil _ _ _ _⟩
theorem qC7 {w':World} {base:Nat} {n:Nat} {xs:List Value} (h:w.ownsRow base ty k v n xs) (hb:Below B w w') (hB:w.heap.size≤B):w'.ownsRow base ty k v n xs:=
 h.kept (w':=w') (row:=none) ⟨hb.os,hb.tape,hb.output,hb.size,fun k hk _=>hb.block k (by omega)⟩ (by cases v.ownBlock<;>simp)
def tA:Array Value:= #[.int .i64 1,.int .i64 0]
def iA:Array Value:= #[.int .i64 26,.int .i64 0,.int .i64 0]
def bm:Nat→Nat→Mod
 |0,k=>⟨List.replicate k [],[fn0],[],[],[]⟩
 |1,k=>⟨[],List.replicate (k+1) fn0,[],[],[]⟩
 |2,k=>⟨[],[fn0],List.replicate k ⟨[],(1,0)⟩,[],[]⟩
 |3,k=>⟨[],[fn0],[],List.range k,[]⟩
 |4,k=>⟨[],[fn0],[],[],List.replicate k [97]⟩
 |5,k=>⟨[],[⟨[],(1,0),List.replicate k (1,0),[(26,0,0)]⟩],[],[],[]⟩
 |_,k=>⟨[],[⟨[],(1,0),[],(26,0,0)::List.replicate k (5,0,0)⟩],[],[],[]⟩
def bt:Nat→Nat
 |0=>8
 |1=>7
 |2=>8
 |3=>16
 |4=>16
 |5=>8
 |_=>63
def Bst (N ty k b0 g ty2:Nat) (mk:Value→Array Value) (w W0 wr:World) (css:List (List Value)) (v:Value):Prop:=
 Below N w wr∧N+4≤wr.heap.size∧wr.ownsRow (N+1) ty k v css.length css.flatten∧(∀b,v.ownBlock=some b→b=b0∨N+4≤b)∧(∀b,b<N+4→b≠b0→b≠g→wr.heap[b]? =W0.heap[b]?)∧Blk wr g ty2 (mk v)
theorem Bst.blk {N b0 ty2:Nat} {mk:Value→Array Value} {W0 wr w1 w2:World} {css:List (List Value)} (h:Bst N ty k b0 g ty2 mk w W0 wr css v) (hb:b0≠g) (hg:g<N+4) (h1:Below wr.heap.size wr w1) (hgr:w1.grownBy w2 v.ownBlock):Blk w2 g ty2 (mk v):=by
 obtain⟨a1,a2,a3,a4,a5,a6⟩:=h;refine((hgr.block g (qAh a6.lt h1.size) fun e=> ?_).trans (h1.block g a6.lt)).trans a6;rcases a4 g e.symm with h|h<;>omega
theorem Bst.step {N b0 ty2 i:Nat} {mk:Value→Array Value} {W0 wr w1 w2:World} {css:List (List Value)} {ys:List Value} {v':Value} (h:Bst N ty k b0 g ty2 mk w W0 wr css v) (hb:b0≠g) (hb0:N≤b0) (hg0:N≤g) (hg:g<N+4) (h1:Below wr.heap.size wr w1)
 (hown:w2.ownsRow (N+1) ty k v' (css.length+1) (css.flatten++ys)) (hgr:w1.grownBy w2 v.ownBlock) (h5:v'.ownBlock=v.ownBlock∨v'.ownBlock=some w1.heap.size) (hset:(mk v).setIfInBounds i v'=mk v'):
 Bst N ty k b0 g ty2 mk w W0 (w2.setCell ⟨g,i,none⟩ v') (css++[ys]) v':=by
 have hblk:=h.blk hb hg h1 hgr;obtain⟨a1,a2,a3,a4,a5,a6⟩:=h;have s1:=h1.size;have s2:=hgr.size;have hv:∀b,v'.ownBlock=some b→b=b0∨N+4≤b:=by
  intro b e;rcases h5 with h|h
  · exact a4 b (h▸e)
  · rw[h] at e
    injection e with e
    omega
 have hrow:∀j,v.ownBlock=some j→N≤j:=fun j e=>by rcases a4 j e with h|h<;>omega
 refine⟨((a1.trans (h1.mono (by omega))).trans (qCT hgr (by omega) hrow)).setCell (p:=⟨g,i,none⟩) hg0 _,by have:=(qBA (qBs g w2) i v').size;omega,?_,hv,?_,?_⟩
 · have:=hown.kept (row:=some g) (qBA (qBs g w2) i v') (.inr fun e=>by rcases hv g e with h|h<;>omega)
   simpa using this
 · intro b h2 h3 h4
   rw[qA2 _ _ _ _ (by simpa using h4),hgr.block b (by omega) (fun e=>by rcases a4 b e.symm with h|h<;>omega),h1.block b (by omega)];exact a5 b h2 h3 h4
 · rw[←hset]
   exact hblk.set i v'
theorem qHl (cs:List Value) (x:Mod) (w:World) (h:modL.R (·<w.heap.size) w cs x) (hz:Small x):Calls Tryz.prog 8 #[vAgg cs] w (Tells (mainB x) w):=by
 have TE:Hid (∀w1,Below w.heap.size w w1→Calls Tryz.prog 7 #[vAgg cs] w1 (Errs (checkN x) w1)):=fun w1 hb=>qDx cs x w1 (qBS h hb) hz;obtain⟨_,_,_,_,_,rfl,⟨A0,d0,e0,-⟩,⟨A1,d1,e1,l1,m1,s1⟩,⟨A2,d2,e2,-⟩,⟨A3,d3,e3,-⟩,⟨A4,d4,e4,-⟩⟩:=h;simp only[List.cons.injEq,and_true] at e0 e1 e2 e3 e4;subst e0 e1 e2 e3 e4;obtain⟨n1,h1⟩:∃n,x.funcs.length=n:=⟨_,rfl⟩;rw[h1] at TE⊢;generalize x.recs.length=n0 at*;generalize x.imps.length=n2 at*;generalize x.ints.length=n3 at*;generalize x.texts.length=n4 at*;have TE2:Hid (∀w1,Below w.heap.size w w1→Calls Tryz.prog 7 #[.agg #[.slice A0 n0 d0,.slice A1 n1 d1,.slice A2 n2 d2,.slice A3 n3 d3,.slice A4 n4 d4]] w1 (Errs (checkN x) w1)):=TE.out;clear TE hz
 show Calls Tryz.prog 8 #[.agg #[.slice A0 n0 d0,.slice A1 n1 d1,.slice A2 n2 d2,.slice A3 n3 d3,.slice A4 n4 d4]] w (Tells (mainB x) w)
 refine jW ?_;intro HB0;refine zy ?_;intro HC0
 by_cases hc:checkN x=0
 rotate_left
 · have HN:=qAg (qEk hc)
   have b:(checkN x==0)=false:=by simpa using hc
   generalize mainB x=mb at*;generalize checkN x=cn at*;clear hc s1 h1
   go_enter Tryz.func8,Tryz.ntmps8
   go_wp2_with (first
    |(go_at_call 7
      refine(TE2.out _ (HB0.out _)).mono ?_;rintro e w1 ⟨rfl,hb1⟩;refine jU ?_;intro HB1;clear hb1))
   go_ret;exact⟨by rw[HN.out];rfl,HB1.out⟩
 · have hF:=qA1.1 (qAw hc)
   have hf1:=hF.f1;obtain⟨f,fs,hfs⟩:∃f fs,x.funcs=f::fs:=by
    cases hx:x.funcs with
    |nil=>rw[hx] at hf1;simp at hf1
    |cons f fs=>exact⟨f,fs,rfl⟩
   have HN:=qAg (qEj hc hfs);rw[hc] at TE2;obtain⟨a,cs,ea,hab,hcl,hR⟩:=s1.at (k:=0) (x:=f) (by rw[hfs];rfl);subst ea;obtain⟨p0,p1,p2,rfl,-,-,⟨P0,c0,e4,-⟩,⟨P1,c1,e5,-⟩,⟨P2,c2,e6,-⟩⟩:=hR;simp only[List.cons.injEq,and_true] at e4 e5 e6;subst e4 e5 e6;have HCL:Hid (∀w1,Below w.heap.size w w1→w1.cell? a=some (.slice P0 f.args.length c0)∧w1.cell? ⟨a.block,a.off+1,none⟩=some (.int .i64 f.ret.1)):=fun w1 hb=>by
    have k0:=hcl 0 _ rfl;have k1:=hcl 1 _ rfl;simp only[Nat.zero_mul,Nat.zero_add] at k0 k1;have e0:a.add 0=a:=by simp[Addr.add]
    have e1:a.add 1=⟨a.block,a.off+1,none⟩:=by simp[Addr.add]
    rw[e0] at k0;rw[e1] at k1;exact⟨(hb.cell (p:=a) hab).trans k0,(hb.cell (p:=⟨a.block,a.off+1,none⟩) hab).trans k1⟩
   have hn1:0<n1:=by rw[←h1];exact hf1
   have hn1':(0:Int)<(n1:Int):=by omega
   clear hc hF hf1 hfs h1 s1 hcl l1 m1;generalize mainB x=mb at*;generalize f.args.length=ua at*;generalize f.ret.1=k1 at*;rcases Nat.eq_zero_or_pos ua with hu|hu
   · subst hu
     go_enter Tryz.func8,Tryz.ntmps8
     go_wp2_with (first
      |(go_at_call 7
        refine(TE2.out _ (HB0.out _)).mono ?_;rintro e w1 ⟨rfl,hb1⟩;refine jR ?_;intro HB1 x0 x1 x2 x3 x4;obtain⟨y0,y1⟩:=HCL.out _ HB1.out;clear hb1))
     go_ret;exact⟨by rw[HN.out];simp;rfl,HB1.out⟩
   · have hd:((ua:Int)==0)=false:=by simp;omega
     have hd2:(ua==0)=false:=by simp;omega
     go_enter Tryz.func8,Tryz.ntmps8
     go_wp2_with (first
      |(go_at_call 7
        refine(TE2.out _ (HB0.out _)).mono ?_;rintro e w1 ⟨rfl,hb1⟩;refine jR ?_;intro HB1 x0 x1 x2 x3 x4;obtain⟨y0,y1⟩:=HCL.out _ HB1.out;clear hb1))
     go_ret;exact⟨by rw[HN.out,decide_eq_false (show ¬ua=0 by omega)];rfl,HB1.out⟩
def subT (a b:Typ):Bool:=subB a.1 a.2 b.1 b.2
def belowT:List Typ→List Typ→Bool
 |[],[]=>true
 |a::xs,b::ys=>subT a b && belowT xs ys
 |_,_=>false
def locB (f:Fn) (n:Int):Typ:=if n<0 then (8,0) else ((f.args++f.locs)[n.toNat]?).getD (8,0)
def fldB (m:Mod) (a b:Int):Typ:=(((m.recs[a.toNat]?).getD [])[b.toNat]?).getD (0,0)
def ruleB (m:Mod) (f:Fn) (i:Ins) (s:List Typ):Option (List Typ×List Typ):=
 if i.1=0 then some ([],[(1,0)])
 else if i.1=1 then some ([],[(2,0)])
 else if i.1=2 then some ([],[(6,0)])
 else if i.1=3 then some ([],[locB f i.2.1])
 else if i.1=4 then some ([locB f i.2.1],[])
 else if i.1=5 then some ([(8,0)],[])
 else if i.1=6 then (match s.reverse with|x::_=>some ([x],[x,x])|_=>none)
 else if i.1=7 then (match s.reverse with|x::y::_=>some ([y,x],[x,y])|_=>none)
 else if i.1=22 then some ([(1,0),(1,0)],[(1,0),(1,0)])
 else if i.1=23 then some ([],[])
 else if i.1=24 then some ([(1,0)],[])
 else if i.1=25 then (match m.funcs[i.2.1.toNat]? with|some g=>some (g.args,[g.ret])|none=>none)
 else if i.1=26 then some ([f.ret],[])
 else if i.1=27 then (match m.imps[i.2.1.toNat]? with|some g=>some (g.args,[g.ret])|none=>none)
 else if i.1=28 then (match m.recs[i.2.1.toNat]? with|some r=>some (r,[(4,i.2.1)])|none=>none)
 else if i.1=29 then some ([(4,i.2.1)],[fldB m i.2.1 i.2.2])
 else if i.1=30 then some ([(4,i.2.1),fldB m i.2.1 i.2.2],[])
 else if i.1=31 then some ([(1,0)],[(3,0)])
 else if i.1=32 then some ([(3,0),(1,0)],[(1,0)])
 else if i.1=33 then some ([(3,0),(1,0),(1,0)],[])
 else if i.1=34 then some ([(3,0)],[(1,0)])
 else if i.1=35 then some ([(1,0)],[(2,0)])
 else if i.1=36 then some ([(2,0),(1,0)],[(1,0)])
 else if i.1=37 then some ([(2,0),(1,0),(1,0)],[])
 else if i.1=38 then some ([(2,0)],[(1,0)])
 else if i.1=39 then some ([(7,0)],[(1,0)])
 else if i.1=40 then some ([(7,0),(7,0)],[(1,0)])
 else if i.1=41 then (match s.reverse with|x::_=>if x.1=5 then some ([x],[]) else none|_=>none)
 else some ([(1,0),(1,0)],[(1,0)])
def movB (s ins outs:List Typ):Option (List Typ):=
 if ins.length≤s.length∧s.length-ins.length+outs.length≤8∧belowT (s.drop (s.length-ins.length)) ins=true then some (s.take (s.length-ins.length)++outs) else none
def nextB (f:Fn) (i:Ins) (pc:Nat):Option (List Int):=
 if i.1=26 then some [] else if i.1=23 then some [i.2.1] else if f.code.length≤pc+1 then none else if i.1=24 then some [(pc:Int)+1,i.2.1] else some [(pc:Int)+1]
def insB8 (m:Mod) (f:Fn) (i:Ins) (pc:Nat) (s:List Typ):Int×List Typ×List Int:=
 match ruleB m f i s with
 |none=>(4,[],[])
 |some (ins,outs)=>match movB s ins outs with
  |none=>(4,[],[])
  |some t=>match nextB f i pc with
   |none=>(1,[],[])
   |some l=>(0,t,l)
def flowB (m:Mod) (f pc:Int) (s:List Typ):Int×List Typ×List Int:=
 if checkN m≠0∨f<0∨pc<0 then (1,[],[])
 else match m.funcs[f.toNat]? with
  |none=>(1,[],[])
  |some fn=>match fn.code[pc.toNat]? with
   |none=>(1,[],[])
   |some i=>insB8 m fn i pc.toNat s
theorem qBq (a:Typ):subT a a=true:=by simp[subT,subB]
theorem qGO {a b c:Typ} (h1:subT a b=true) (h2:subT b c=true):subT a c=true:=by
 obtain⟨a,a'⟩:=a;obtain⟨b,b'⟩:=b;obtain⟨c,c'⟩:=c;simp only[subT,subB,refB,Bool.or_eq_true,Bool.and_eq_true,beq_iff_eq] at h1 h2⊢
 omega
theorem qBT (h:belowT a b=true):a.length=b.length:=by
 induction a generalizing b with
 |nil=>cases b<;>simp[belowT] at h⊢
 |cons x a ih=>
  cases b with
  |nil=>simp[belowT] at h
  |cons y b=>simp only[belowT,Bool.and_eq_true] at h;simp[ih h.2]
theorem qDW (a:List Typ):belowT a a=true:=by
 induction a with
 |nil=>rfl
 |cons x a ih=>simp[belowT,qBq,ih]
theorem qCF {c:List Typ} (h1:belowT a b=true) (h2:belowT b c=true):belowT a c=true:=by
 induction a generalizing b c with
 |nil=>cases b<;>cases c<;>simp[belowT] at h1 h2⊢
 |cons x a ih=>
  cases b with
  |nil=>simp[belowT] at h1
  |cons y b=>
   cases c with
   |nil=>simp[belowT] at h2
   |cons z c=>
    simp only[belowT,Bool.and_eq_true] at h1 h2⊢;exact⟨qGO h1.1 h2.1,ih h1.2 h2.2⟩
theorem qEM {c d:List Typ} (h1:belowT a b=true) (h2:belowT c d=true):belowT (a++c) (b++d)=true:=by
 induction a generalizing b with
 |nil=>cases b<;>simp[belowT] at h1 ⊢;exact h2
 |cons x a ih=>
  cases b with
  |nil=>simp[belowT] at h1
  |cons y b=>
   simp only[belowT,Bool.and_eq_true,List.cons_append] at h1⊢;exact⟨h1.1,ih h1.2⟩
theorem qDV (h:belowT a b=true) (n:Nat):belowT (a.take n) (b.take n)=true:=by
 induction a generalizing b n with
 |nil=>cases b<;>simp[belowT] at h⊢
 |cons x a ih=>
  cases b with
  |nil=>simp[belowT] at h
  |cons y b=>
   simp only[belowT,Bool.and_eq_true] at h
   cases n with
   |zero=>rfl
   |succ n=>simp only[List.take_succ_cons,belowT,Bool.and_eq_true];exact⟨h.1,ih h.2 n⟩
theorem qDX (h:belowT a b=true) (n:Nat):belowT (a.drop n) (b.drop n)=true:=by
 induction a generalizing b n with
 |nil=>cases b<;>simp[belowT] at h⊢
 |cons x a ih=>
  cases b with
  |nil=>simp[belowT] at h
  |cons y b=>
   cases n with
   |zero=>exact h
   |succ n=>
    simp only[belowT,Bool.and_eq_true] at h;simpa using ih h.2 n
theorem qCU (h:belowT (a++[x]) (b++[y])=true):belowT a b=true∧subT x y=true:=by
 have hl:=qBT h;simp at hl;refine⟨?_,?_⟩
 · have:=qDV h a.length
   rwa [List.take_append_of_le_length (qAi _),List.take_length,hl,List.take_append_of_le_length (qAi _),List.take_length] at this
 · have:=qDX h a.length
   rw[List.drop_append_of_le_length (qAi _),List.drop_length,hl,List.drop_append_of_le_length (qAi _),List.drop_length] at this;simpa[belowT] using this
theorem qGW {ins outs:List Typ} (h:belowT a b=true) (hr:ruleB m f i b=some (ins,outs)):
 ∃ins' outs',ruleB m f i a=some (ins',outs')∧ins'.length=ins.length∧belowT outs' outs=true∧(belowT (b.drop (b.length-ins.length)) ins=true→belowT (a.drop (a.length-ins'.length)) ins'=true):=by
 have hlen:=qBT h;have same:ruleB m f i a=ruleB m f i b→∃ins' outs',ruleB m f i a=some (ins',outs')∧ins'.length=ins.length∧belowT outs' outs=true∧(belowT (b.drop (b.length-ins.length)) ins=true→belowT (a.drop (a.length-ins'.length)) ins'=true):=fun e=>
  ⟨ins,outs,by rw[e,hr],rfl,qDW _,fun hb=>qCF (by rw[hlen];exact qDX h _) hb⟩
 have tops:∀{y:Typ} {r:List Typ},b.reverse=y::r→∃x q,a.reverse=x::q∧subT x y=true∧belowT q.reverse r.reverse=true:=fun {y r} hb=>by
  cases ha:a.reverse with
  |nil=>
   have e1:=congrArg List.length ha;have e2:=congrArg List.length hb;rw[List.length_reverse] at e1 e2;simp only[List.length_nil,List.length_cons] at e1 e2
   omega
  |cons x q=>
   have ea:a=q.reverse++[x]:=by rw[←List.reverse_reverse a,ha];simp
   have eb:b=r.reverse++[y]:=by rw[←List.reverse_reverse b,hb];simp
   rw[ea,eb] at h;exact⟨x,q,rfl,(qCU h).2,(qCU h).1⟩
 have end1:∀{x:Typ} {q:List Typ},a.reverse=x::q→a.drop (a.length-1)=[x]:=fun {x q} ha=>by
  have ea:a=q.reverse++[x]:=by rw[←List.reverse_reverse a,ha];simp
  rw[ea];simp
 have end2:∀{x y:Typ} {q:List Typ},a.reverse=x::y::q→a.drop (a.length-2)=[y,x]:=fun {x y q} ha=>by
  have ea:a=q.reverse++[y,x]:=by rw[←List.reverse_reverse a,ha];simp
  rw[ea];simp
 by_cases h6:i.1=6
 · cases hb:b.reverse with
   |nil=>simp[ruleB,h6,hb] at hr
   |cons y r=>
    obtain⟨x,q,ha,hs,-⟩:=tops hb;simp[ruleB,h6,hb] at hr;obtain⟨rfl,rfl⟩:=hr;exact⟨[x],[x,x],by simp[ruleB,h6,ha],rfl,by simp[belowT,hs],fun _=>by rw[List.length_singleton,end1 ha];simp[belowT,qBq]⟩
 by_cases h7:i.1=7
 · cases hb:b.reverse with
   |nil=>simp[ruleB,h7,hb] at hr
   |cons y r=>
    cases r with
    |nil=>simp[ruleB,h7,hb] at hr
    |cons y2 r=>
     obtain⟨x,q,ha,hs,hq⟩:=tops hb
     cases q with
     |nil=>
      have:=qBT hq;simp at this
     |cons x2 q=>
      simp only[List.reverse_cons] at hq;have hs2:=(qCU hq).2;simp[ruleB,h7,hb] at hr;obtain⟨rfl,rfl⟩:=hr;exact⟨[x2,x],[x,x2],by simp[ruleB,h7,ha],rfl,by simp[belowT,hs,hs2],fun _=>by rw[show[x2,x].length=2 from rfl,end2 ha];simp[belowT,qBq]⟩
 by_cases h41:i.1=41
 · cases hb:b.reverse with
   |nil=>simp[ruleB,h41,hb] at hr
   |cons y r=>
    obtain⟨x,q,ha,hs,-⟩:=tops hb
    by_cases hy:y.1=5
    · have hx:x.1=5:=by
       simp only[subT,subB,refB,Bool.or_eq_true,Bool.and_eq_true,beq_iff_eq] at hs
       omega
      simp[ruleB,h41,hb,hy] at hr;obtain⟨rfl,rfl⟩:=hr;exact⟨[x],[],by simp[ruleB,h41,ha,hx],rfl,rfl,fun _=>by rw[List.length_singleton,end1 ha];simp[belowT,qBq]⟩
    · simp[ruleB,h41,hb,hy] at hr
 · exact same (by simp only[ruleB,h6,h7,h41,if_false])
theorem qH6 {pc:Nat} {t:List Typ} (h:belowT a b=true) (hf:insB8 m f i pc b=(0,t,l)):∃s,insB8 m f i pc a=(0,s,l)∧belowT s t=true:=by
 have hlen:=qBT h
 cases hr:ruleB m f i b with
 |none=>simp[insB8,hr] at hf
 |some p=>
  obtain⟨ins,outs⟩:=p;obtain⟨ins',outs',hr',hl,ho,hb⟩:=qGW h hr;have hol:=qBT ho
  cases hm:movB b ins outs with
  |none=>simp[insB8,hr,hm] at hf
  |some u=>
   cases hn:nextB f i pc with
   |none=>simp[insB8,hr,hm,hn] at hf
   |some q=>
    simp[insB8,hr,hm,hn] at hf;obtain⟨rfl,rfl⟩:=hf;unfold movB at hm;split at hm
    · rename_i hc
      obtain⟨c1,c2,c3⟩:=hc;injection hm with hm;subst hm;refine⟨a.take (a.length-ins'.length)++outs',?_,qEM (by rw[hlen,hl];exact qDV h _) ho⟩;simp only[insB8,hr',hn,movB];rw[if_pos ⟨by omega,by omega,hb c3⟩]
    · cases hm
theorem qEJ (h:belowT (xs.take k) (ys.take k)=true) (hx:xs[k]? =some x) (hy:ys[k]? =some y) (hs:subT x y=true):belowT (xs.take (k+1)) (ys.take (k+1))=true:=by
 obtain⟨hk,rfl⟩:=qAj.1 hx;obtain⟨hk2,rfl⟩:=qAj.1 hy;rw[qAp hk,qAp hk2];exact qEM h (by simp[belowT,hs])
theorem qEs (hx:xs[k]? =some x) (hy:ys[k]? =some y) (hs:subT x y=false):belowT xs ys=false:=by
 induction xs generalizing ys k with
 |nil=>simp at hx
 |cons a xs ih=>
  cases ys with
  |nil=>rfl
  |cons b ys=>
   cases k with
   |zero=>simp at hx hy;subst hx hy;simp[belowT,hs]
   |succ k=>simp only[belowT,ih (k:=k) (by simpa using hx) (by simpa using hy),Bool.and_false]
theorem qEZ (h:xs.length≠ys.length):belowT xs ys=false:=by
 cases hb:belowT xs ys
 · rfl
 · exact absurd (qBT hb) h
def cntB (m:Mod) (f:Fn) (i:Ins) (s:List Typ):Nat×Nat:=match ruleB m f i s with
 |none=>(0,0)
 |some p=>(p.1.length,p.2.length)
theorem qFW {s ins outs:List Typ} (hr:ruleB m f i s=some (ins,outs)) (hk:k≤s.length):
 ruleB m f i (s.drop (s.length-k))=some (ins,outs)∨(ruleB m f i (s.drop (s.length-k))=none∧k<ins.length):=by
 have e:(s.drop (s.length-k)).reverse=s.reverse.take k:=by rw[List.reverse_drop,show s.length-(s.length-k)=k by omega]
 by_cases h6:i.1=6
 · cases hb:s.reverse with
   |nil=>simp[ruleB,h6,hb] at hr
   |cons y r=>
    simp[ruleB,h6,hb] at hr;obtain⟨rfl,rfl⟩:=hr;rw[hb] at e
    cases k with
    |zero=>exact .inr ⟨by simp only[ruleB,h6,e];simp,by simp⟩
    |succ k=>exact .inl (by simp only[ruleB,h6,e];simp)
 by_cases h7:i.1=7
 · cases hb:s.reverse with
   |nil=>simp[ruleB,h7,hb] at hr
   |cons y r=>
    cases r with
    |nil=>simp[ruleB,h7,hb] at hr
    |cons z r=>
     simp[ruleB,h7,hb] at hr;obtain⟨rfl,rfl⟩:=hr;rw[hb] at e
     match k with
     |0=>exact .inr ⟨by simp only[ruleB,h7,e];simp,by simp⟩
     |1=>exact .inr ⟨by simp only[ruleB,h7,e];simp,by simp⟩
     |k+2=>exact .inl (by simp only[ruleB,h7,e];simp)
 by_cases h41:i.1=41
 · cases hb:s.reverse with
   |nil=>simp[ruleB,h41,hb] at hr
   |cons y r=>
    by_cases h5:y.1=5
    · simp[ruleB,h41,hb,h5] at hr
      obtain⟨rfl,rfl⟩:=hr;rw[hb] at e
      cases k with
      |zero=>exact .inr ⟨by simp only[ruleB,h41,e];simp,by simp⟩
      |succ k=>exact .inl (by simp only[ruleB,h41,e];simp[h5])
    · simp[ruleB,h41,hb,h5] at hr
 · exact .inl (by rw[←hr];simp only[ruleB,h6,h7,h41,if_false])
theorem qFK {pc:Nat} {s t:List Typ} (h:insB8 m f i pc s=(0,t,l)):
 (cntB m f i s).1≤s.length∧t.length=s.length-(cntB m f i s).1+(cntB m f i s).2∧t.length≤8∧
   (∀k,k<(cntB m f i s).1→(insB8 m f i pc (s.drop (s.length-k))).1≠0)∧
   ∃u,insB8 m f i pc (s.drop (s.length-(cntB m f i s).1))=(0,u,l)∧u.length=(cntB m f i s).2:=by
 cases hr:ruleB m f i s with
 |none=>simp[insB8,hr] at h
 |some p=>
  obtain⟨ins,outs⟩:=p
  cases hm:movB s ins outs with
  |none=>simp[insB8,hr,hm] at h
  |some t'=>
   cases hn:nextB f i pc with
   |none=>simp[insB8,hr,hm,hn] at h
   |some l'=>
    simp[insB8,hr,hm,hn] at h;obtain⟨rfl,rfl⟩:=h;unfold movB at hm;split at hm
    · rename_i hc
      obtain⟨c1,c2,c3⟩:=hc;injection hm with hm;subst hm;simp only[cntB,hr];refine⟨c1,by simp<;>omega,by simp<;>omega,fun k hk=> ?_,?_⟩
      · rcases qFW hr (k:=k) (by omega) with h|⟨h,-⟩
        · have:movB (s.drop (s.length-k)) ins outs=none:=by
           unfold movB;rw[if_neg];rintro⟨h1,-⟩;simp at h1
           omega
          simp[insB8,h,this]
        · simp[insB8,h]
      · rcases qFW hr (k:=ins.length) c1 with h|⟨-,h⟩
        · refine⟨outs,?_,rfl⟩
          have hl:(s.drop (s.length-ins.length)).length=ins.length:=by simp;omega
          have:movB (s.drop (s.length-ins.length)) ins outs=some outs:=by
           unfold movB;rw[hl,if_pos ⟨qAi _,by omega,by simpa using c3⟩];simp
          simp[insB8,h,this,hn]
        · omega
    · cases hm
def T2:List Typ→List Value
 |[]=>[]
 |t::ts=> .int .i64 t.1:: .int .i64 t.2::T2 ts
theorem T2_app (ts us:List Typ):T2 (ts++us)=T2 ts++T2 us:=by
 induction ts with
 |nil=>rfl
 |cons t ts ih=>simp[T2,ih]
theorem qDN (ts:List Typ):(T2 ts).length=ts.length*2:=by
 induction ts with
 |nil=>rfl
 |cons t ts ih=>simp[T2,ih];omega
theorem qC2 {t:Typ} (h:ts[j]? =some t):(T2 ts)[j*2]? =some (.int .i64 t.1):=by
 induction ts generalizing j with
 |nil=>simp at h
 |cons u ts ih=>
  cases j with
  |zero=>simp at h;subst h;simp[T2]
  |succ j=>rw[show(j+1)*2=j*2+1+1 by omega];simp[T2];exact ih qy
theorem qC1 {t:Typ} (h:ts[j]? =some t):(T2 ts)[j*2+1]? =some (.int .i64 t.2):=by
 induction ts generalizing j with
 |nil=>simp at h
 |cons u ts ih=>
  cases j with
  |zero=>simp at h;subst h;simp[T2]
  |succ j=>rw[show(j+1)*2+1=j*2+1+1+1 by omega];simp[T2];exact ih qy
theorem T2_one (ts:List Typ):∀u∈T2 ts,u.oneCell'=true:=by
 induction ts with
 |nil=>simp[T2]
 |cons t ts ih=>
  intro u hu;simp only[T2,List.mem_cons] at hu;rcases hu with rfl|rfl|hu
  · rfl
  · rfl
  · exact ih u hu
def A64 (ts:List Typ):Prop:=∀t∈ts,I64 t.1∧I64 t.2
theorem A64.app {us:List Typ} (h:A64 ts) (h':A64 us):A64 (ts++us):=fun t ht=>by
 rcases List.mem_append.1 ht with h1|h1
 · exact h t h1
 · exact h' t h1
theorem A64.take (h:A64 ts) (k:Nat):A64 (ts.take k):=fun t ht=>h t (List.mem_of_mem_take ht)
theorem A64.drop (h:A64 ts) (k:Nat):A64 (ts.drop k):=fun t ht=>h t (List.mem_of_mem_drop ht)
theorem A64.nil:A64 []:=fun t ht=>by simp at ht
theorem A64.one {t:Typ} (h:I64 t.1) (h':I64 t.2):A64 [t]:=fun u hu=>by simp at hu;subst hu;exact⟨h,h'⟩
theorem Sq.a64 (h:Sq typL S w A ts):A64 ts:=fun t ht=>by
 obtain⟨j,hj⟩:=qBM.1 ht;obtain⟨a,cs,-,-,-,hr⟩:=h.at hj;exact hr.2
theorem Sq.take {xs:List α} (h:Sq L S w A xs) (k:Nat):Sq L S w A (xs.take k):=fun hn=>by
 have hl:(xs.take k).length≤xs.length:=by simp;omega
 obtain⟨a,e,hs,hc⟩:=h (by omega);refine⟨a,e,hs,fun j x hx=>hc j x ?_⟩;have hj:j<k:=by
  have:=(qAj.1 hx).1;simp at this
  omega
 rwa [List.getElem?_take_of_lt hj] at hx
theorem Sq.drop {xs:List α} (h:Sq L S w A xs) (k:Nat):Sq L S w (A.map (·.add (k*L.k))) (xs.drop k):=fun hn=>by
 have hl:(xs.drop k).length=xs.length-k:=by simp
 obtain⟨a,e,hs,hc⟩:=h (by omega);refine⟨a.add (k*L.k),by rw[e];rfl,by rw[qAz];exact hs,fun j x hx=> ?_⟩;rw[List.getElem?_drop] at hx;obtain⟨cs,h1,h2⟩:=hc (k+j) x hx;refine⟨cs,fun i u hu=> ?_,h2⟩;rw[qCG,←h1 i u hu,Nat.add_mul,Nat.add_assoc]
theorem qCl {base n:Nat} (h:w.ownsRow base 41 2 v n (T2 ts)) (ha:A64 ts):
 ∃A c,v= .slice A n c∧n=ts.length∧n≤c∧c≤maxLen∧Sq typL (fun b=>base≤b∧b<w.heap.size) w A ts:=by
 have hn:n=ts.length:=by have:=h.1;rw[qDN] at this;omega
 rcases h.2 with⟨rfl,h0⟩|⟨g,cap,cur,rfl,hb,hg,hnc,hcm,_,_⟩
 · refine⟨none,0,by rw[h0],hn,by omega,by simp[maxLen],fun hpos=>absurd hpos (by omega)⟩
 · refine⟨some ⟨g,0,none⟩,cap,rfl,hn,hnc,hcm,fun _=>⟨⟨g,0,none⟩,rfl,⟨hb,(Array.getElem?_eq_some_iff.1 hg).1⟩,fun j t hj=>⟨_,fun i u hu=> ?_,rfl,ha t (qAl hj)⟩⟩⟩
   match i,hu with
   |0,hu=>simp at hu;subst hu;exact h.cells rfl (j*2) _ (qC2 hj)
   |1,hu=>simp at hu;subst hu;exact h.cells rfl (j*2+1) _ (qC1 hj)
   |i+2,hu=>simp at hu
theorem qBa (w:World):(w.alloc (.cells #[] 41)).ownsRow w.heap.size 41 2 (.slice (some ⟨w.heap.size,0,none⟩) 0 0) 0 (T2 []):=
 World.ownsRow_made w #[] 0 (qAi _) (by simp[maxLen]) (by simp)
theorem qIc {a:Addr} (h:Sq typL S w (some a) ts):∀j u,(T2 ts)[j]? =some u→w.cell? (a.add j)=some u:=fun j u hu=>by
 have hj:=(qAj.1 hu).1;rw[qDN] at hj;obtain⟨a',e,-,hc⟩:=h (by omega);injection e with e;subst e;obtain⟨t,ht⟩:∃t,ts[j / 2]? =some t:=⟨ts[j / 2]'(by omega),List.getElem?_eq_getElem _⟩;obtain⟨cs,h1,rfl,-⟩:=hc _ t ht;rcases Nat.mod_two_eq_zero_or_one j with e|e
 · have ej:j=j / 2*2:=by omega
   have k0:=h1 0 _ rfl;rw[ej,qC2 ht] at hu;injection hu with hu;subst hu;rw[show j / 2*typL.k+0=j by show j / 2*2+0=j;omega] at k0;exact k0
 · have ej:j=j / 2*2+1:=by omega
   have k0:=h1 1 _ rfl;rw[ej,qC1 ht] at hu;injection hu with hu;subst hu;rw[show j / 2*typL.k+1=j by show j / 2*2+1=j;omega] at k0;exact k0
theorem qFR:(Tryz.prog.info? 41).map (fun i=>(i.zero,i.size,i.bytes))=some (some (.agg #[.int .i64 0,.int .i64 0]),2,16):=by kernel_rfl
theorem qCP (w:World) (base ty:Nat) (v:Value) (n:Nat) (xs:List Typ) (hown:w.ownsRow base 41 2 v n (T2 xs)) (A:Option Addr) (m c:Nat) (ys:List Typ) (hm:ys.length=m)
 (S:Nat→Prop) (hy:Sq typL S w A ys) (hbig:n+m≤1000000000) (hbase:base≤w.heap.size):
 ∃v' w',(Builtin.append_ #[39,39] ty #[v,.slice A m c]).run Tryz.prog w= .ok v' w'∧w'.ownsRow base 41 2 v' (n+m) (T2 (xs++ys))∧w.grownBy w' v.ownBlock∧
  (v'.ownBlock=v.ownBlock∨v'.ownBlock=some w.heap.size):=by
 obtain⟨i0,hi0,hz0,hz1,hz2⟩:=info_parts qFR;rw[T2_app];rcases A with _|a
 · have h0:m=0:=by
    rcases Nat.eq_zero_or_pos m with h|h
    · exact h
    · obtain⟨a,h,_⟩:=hy (by omega)
      cases h
   subst h0;obtain rfl:ys=[]:=qA4 hm;refine⟨v,w,?_,by simpa[T2] using hown,⟨rfl,rfl,rfl,qAi _,fun _ _ _=>rfl⟩,.inl rfl⟩;have ht:=run_underlying (P:=Tryz.prog) (w:=w) Tryz.underlying39;exact q9
 · obtain⟨v',w',hrun,h2,h3,_,h5⟩:=run_append_own_at (P:=Tryz.prog) w base 39 ty 41 i0 (.agg #[.int .i64 0,.int .i64 0]) 2 16 Tryz.underlying39 hi0 hz0 hz1 hz2 rfl (by omega) v n (T2 xs) hown a m c (T2 ys) (by rw[qDN];omega) (qIc hy) (T2_one ys)
    zh (by omega) hbase
   exact⟨v',w',hrun,h2,h3,h5⟩
theorem qBD (w:World) {rest:List Oper} {a:Act} (hgd:o.guard=none) (s x:Operand)
 (ho:o.op= .call {callee:= .builtin .append,args:= #[s,x],argTypes:= #[39,39]})
 (base:Nat) (v:Value) (n:Nat) (xs:List Typ) (hs:a.eval s=v) (hown:w.ownsRow base 41 2 v n (T2 xs)) (A:Option Addr) (m c:Nat) (ys:List Typ) (hx:a.eval x= .slice A m c) (hm:ys.length=m)
 (S:Nat→Prop) (hy:Sq typL S w A ys) (hbig:n+m≤1000000000) (hbase:base≤w.heap.size)
 (h:∀v' w',w'.ownsRow base 41 2 v' (n+m) (T2 (xs++ys))→w.grownBy w' v.ownBlock→(v'.ownBlock=v.ownBlock∨v'.ownBlock=some w.heap.size)→wpList Tryz.prog ops Q rest (a.put o.dst v') w'):
 wpList Tryz.prog ops Q (o::rest) a w:=by
 refine wpList_plain hgd fun _ hK=> ?_;obtain⟨v',w',hrun,h2,h3,h4⟩:=qCP w base o.type v n xs hown A m c ys hm S hy hbig hbase;unfold Oper.wp execOp;simp only[ho,resolve,invoke,builtin,Sem.run_bind,Sem.run_pure,Result.andThen_ok,List.map_toArray,List.map_cons,List.map_nil,hs,hx,hrun];exact hK _ _ (h v' w' h2 h3 h4)
theorem qCH (w:World) {a:Act} {K:Act→World→Prop} {E:Prop} (hgd:o.guard=none) (s x:Operand)
 (ho:o.op= .call {callee:= .builtin .append,args:= #[s,x],argTypes:= #[39,39]})
 (base:Nat) (v:Value) (n:Nat) (xs:List Typ) (hs:a.eval s=v) (hown:w.ownsRow base 41 2 v n (T2 xs)) (A:Option Addr) (m c:Nat) (ys:List Typ) (hx:a.eval x= .slice A m c) (hm:ys.length=m)
 (S:Nat→Prop) (hy:Sq typL S w A ys) (hbig:n+m≤1000000000) (hbase:base≤w.heap.size)
 (h:∀v' w',w'.ownsRow base 41 2 v' (n+m) (T2 (xs++ys))→w.grownBy w' v.ownBlock→(v'.ownBlock=v.ownBlock∨v'.ownBlock=some w.heap.size)→K (a.put o.dst v') w'):
 if Region.wanted o (yielded ops a.tmps)=true then Oper.wp Tryz.prog o a w K Q else E:=by
 have hw:Region.wanted o (yielded ops a.tmps)=true:=by simp[Region.wanted,hgd]
 rw[if_pos hw];obtain⟨v',w',hrun,h2,h3,h4⟩:=qCP w base o.type v n xs hown A m c ys hm S hy hbig hbase;unfold Oper.wp execOp;simp only[ho,resolve,invoke,builtin,Sem.run_bind,Sem.run_pure,Result.andThen_ok,List.map_toArray,List.map_cons,List.map_nil,hs,hx,hrun];exact h v' w' h2 h3 h4
theorem qET (w:World) {rest:List Oper} {a:Act} (hgd:o.guard=none) (s x:Operand)
 (ho:o.op= .call {callee:= .builtin .append,args:= #[s,x],argTypes:= #[39,3]})
 (n:Nat) (h0:0<n) (hn:n≤1000000000) (hs:a.eval s= .slice none 0 0) (hx:a.eval x= .int .i64 (n:Nat))
 (h:∀G w',n≤G→G≤maxLen→w'.ownsRow w.heap.size 41 2 (.slice (some ⟨w.heap.size,0,none⟩) 0 G) 0 (T2 [])→Below w.heap.size w w'→wpList Tryz.prog ops Q rest (a.put o.dst (.slice (some ⟨w.heap.size,0,none⟩) n G)) w'):
 wpList Tryz.prog ops Q (o::rest) a w:=by
 obtain⟨i0,hi0,hz0,hz1,hz2⟩:=info_parts qFR;refine wpList_plain hgd fun _ hK=> ?_;have hrun:=Lib.run_append_nil_zeros (P:=Tryz.prog) w 39 3 o.type 41 i0 (.agg #[.int .i64 0,.int .i64 0]) .i64 .i64 Tryz.underlying39 Tryz.underlying3 hi0 hz0 n h0 (by omega) (by omega) (by rw[hz2];omega);have hG:=grownCap_ge w n 0 41;have hG2:=grownCap_le_maxLen w n 0 41 (by unfold maxLen;omega);generalize grownCap w n 0 41=G at hrun hG hG2;unfold Oper.wp execOp;simp only[ho,resolve,invoke,builtin,Sem.run_bind,Sem.run_pure,Result.andThen_ok,List.map_toArray,List.map_cons,List.map_nil,hs,hx,hrun];refine hK _ _ (h G _ hG hG2 ?_ ((qAk _ w).drew.alloc (qAi _) _));refine World.ownsRow_made (base:=w.heap.size) (e:=41) (size:=2) w.drew _ G (qAi _) hG2 ?_;simp[Builtin.zeroCells,Value.cells]
 omega
def Is (l:List Int):List Value:=l.map fun x=>Value.int .i64 x
theorem qIU (l:List Int):(Is l).length=l.length:=by simp[Is]
theorem qJv {x:Int} (h:l[j]? =some x):(Is l)[j]? =some (.int .i64 x):=by simp[Is,h]
theorem qBG {v:World} {o:Obj} {b:Nat} (h:Blk v b t c):Blk (v.alloc o) b t c:=(qBh v o b h.lt).trans h
theorem qA9 {v:World} {b:Nat} (h:v.heap.size=b):Blk (v.alloc (.cells c t)) b t c:=by rw[←h];exact qBc v t c
theorem qAx {v:World} {b:Nat} (h:Blk v b t c) (hb:Below B v w) (hB:b<B):Blk w b t c:=(hb.block b hB).trans h
theorem qEr {v:World} {b i:Nat} {u:Value} (h:Blk v b t c) (hne:b≠g):Blk (v.setCell ⟨g,i,none⟩ u) b t c:=(qA2 v ⟨g,i,none⟩ u b hne).trans h
theorem qGM {cs:Array Value} {c0 c1:List Value} {x y:α} (h:Blk w g ty cs) (hg:S g) (hc:cs.toList=c0++c1) (h0:L.R S w c0 x) (h1:L.R S w c1 y):(slL L).R S w [.slice (some ⟨g,0,none⟩) 2 2] [x,y]:=by
 have l0:=L.len h0;have l1:=L.len h1;have hcell:∀i u,(c0++c1)[i]? =some u→w.cell? ⟨g,i,none⟩=some u:=fun i u hu=>by
  rw[h.cell i,←hu,←hc];simp
 refine qAX ?_;intro e;refine⟨some ⟨g,0,none⟩,2,rfl,qAi _,by simp[maxLen],fun _=>⟨_,rfl,hg,fun j z hz=> ?_⟩⟩
 match j,hz with
 |0,hz=>
  simp at hz;subst hz;refine⟨c0,fun i u hu=> ?_,h0⟩;rw[e,Nat.zero_mul,Nat.zero_add];have hi:=(qAj.1 hu).1;exact hcell i u (by rw[List.getElem?_append_left hi];exact hu)
 |1,hz=>
  simp at hz;subst hz;refine⟨c1,fun i u hu=> ?_,h1⟩;rw[e,Nat.one_mul];exact hcell _ u (by rw[List.getElem?_append_right (by omega)];simpa[l0] using hu)
 |j+2,hz=>simp at hz
def TypIs (t:Typ) (w:World) (e:Ending) (w':World):Prop:=e= .returned (.agg #[.int .i64 t.1,.int .i64 t.2])∧Below w.heap.size w w'
theorem qEK {R:Nat} {W:World} {u:Value} (h:Below B w W) (hR:B≤R):Below B w ((W.setCell ⟨R,0,none⟩ u).setCell ⟨R,1,none⟩ v):=(h.setCell (p:=⟨R,0,none⟩) hR u).setCell (p:=⟨R,1,none⟩) hR v
theorem qAo (w:World) (o:Obj):Below w.heap.size w (w.alloc o):=(qAk _ w).alloc (qAi _) o
theorem qHt (k:Int) (w:World):Calls Tryz.prog 96 #[.int .i64 k] w (TypIs (k,0) w):=by
 go_enter Tryz.func96,Tryz.ntmps96
 go_wp2_with fail
 exact bodyPost_ret (v:= .agg #[.int .i64 k,.int .i64 0]) (by simp[results,Tryz.results96,go_sem]) rfl ⟨rfl,qAo _ _⟩
def topB (s:List Typ) (n:Nat):Typ:=if n<s.length then (s[s.length-1-n]?).getD (8,0) else (8,0)
theorem qF4 (A:Option Addr) (n c k:Nat) (ts:List Typ) (w:World) (hl:ts.length=n) (h:Sq typL (·<w.heap.size) w A ts) (hn:n≤9223372036854775807) (hk:k≤1):
 Calls Tryz.prog 100 #[.slice A n c,.int .i64 (k:Nat)] w (TypIs (topB ts k) w):=by
 by_cases hkn:k<n
 · obtain⟨t,ht⟩:∃t,ts[n-1-k]? =some t:=⟨ts[n-1-k]'(by omega),List.getElem?_eq_getElem _⟩
   have HT:Hid (topB ts k=t):=by
    show topB ts k=t
    rw[topB,hl,if_pos hkn,ht]
    rfl
   obtain⟨a,cs,rfl,hab,hc,hr⟩:=h.at ht;obtain⟨rfl,-,-⟩:=hr;obtain⟨j,hj⟩:∃j:Nat,n-1-k=j:=⟨_,rfl⟩;rw[hj] at hc;have e1:(n:Int)-1-(k:Int)=(j:Int):=by omega
   have j1:(j:Int)<(n:Int):=by omega
   have k1:¬((n:Int)≤(k:Int)):=by omega
   have c0:=fun ob=>(qAo w ob).cell (p:=a.add (j*2)) qB |>.trans (hc 0 _ rfl);have c1:=fun ob=>(qAo w ob).cell (p:=a.add (j*2+1)) qB |>.trans (hc 1 _ rfl);rw[qAm a (j*2) 1 (by omega)] at c1;clear hc h ht hl hj
   go_enter Tryz.func100,Tryz.ntmps100
   go_wp2_with fail
   exact bodyPost_ret (v:= .agg #[.int .i64 t.1,.int .i64 t.2]) (by simp[results,Tryz.results100,go_sem]) rfl ⟨by rw[HT.out],qAo _ _⟩
 · have HT:Hid (topB ts k=(8,0)):=by
    show topB ts k=(8,0)
    rw[topB,hl,if_neg hkn]
   have hk3:(n:Int)≤(k:Int):=by omega
   have HP:=qAg (fun w=>qHt 8 w);clear h hl
   go_enter Tryz.func100,Tryz.ntmps100
   go_wp2_with (first
    |(go_at_call 96
      refine(HP.out _).mono ?_;rintro e w1 ⟨rfl,hb1⟩;have HB:=qAg hb1;obtain⟨hc1,hf1⟩:=qBB hb1;have hs1:w.heap.size<w1.heap.size:=qR;clear hb1))
   exact bodyPost_ret (v:= .agg #[.int .i64 8,.int .i64 0]) (by simp[results,Tryz.results100,go_sem,hc1,hs1]) rfl ⟨by rw[HT.out],qEK ((qAo _ _).trans (HB.out.mono (by simp))) (qAi _)⟩
def hasB (n:Nat) (k:Int):Bool:=decide (0≤k) && decide (k<(n:Int))
theorem qF1 (A:Option Addr) (n c:Nat) (k:Int) (w:World):Calls Tryz.prog 113 #[.slice A n c,.int .i64 k] w fun e w'=>e= .returned (.bool (hasB n k))∧w'=w:=by
 unfold hasB
 by_cases h0:0≤k
 · go_enter Tryz.func113,Tryz.ntmps113
   go_wp2_with fail
   go_ret;exact⟨by simp[h0],rfl⟩
 · go_enter Tryz.func113,Tryz.ntmps113
   go_wp2_with fail
   go_ret;exact⟨by simp[h0];omega,rfl⟩
theorem qEA (A:Option Addr) (n c:Nat) (k:Int) (w:World):Calls Tryz.prog 67 #[.slice A n c,.int .i64 k] w fun e w'=>e= .returned (.bool (hasB n k))∧w'=w:=by
 unfold hasB
 by_cases h0:0≤k
 · go_enter Tryz.func67,Tryz.ntmps67
   go_wp2_with fail
   go_ret;exact⟨by simp[h0],rfl⟩
 · go_enter Tryz.func67,Tryz.ntmps67
   go_wp2_with fail
   go_ret;exact⟨by simp[h0];omega,rfl⟩
theorem qF2 (A:Option Addr) (n c:Nat) (k:Int) (w:World):Calls Tryz.prog 68 #[.slice A n c,.int .i64 k] w fun e w'=>e= .returned (.bool (hasB n k))∧w'=w:=by
 unfold hasB
 by_cases h0:0≤k
 · go_enter Tryz.func68,Tryz.ntmps68
   go_wp2_with fail
   go_ret;exact⟨by simp[h0],rfl⟩
 · go_enter Tryz.func68,Tryz.ntmps68
   go_wp2_with fail
   go_ret;exact⟨by simp[h0];omega,rfl⟩
theorem kref (k n:Int) (w:World):Calls Tryz.prog 112 #[.agg #[.int .i64 k,.int .i64 n]] w fun e w'=>e= .returned (.bool (refB k))∧Below w.heap.size w w':=by
 by_cases h2:k=2
 · subst h2
   exact zR
 by_cases h3:k=3
 · subst h3
   exact zR
 by_cases h4:k=4
 · subst h4
   exact zR
 by_cases h6:k=6
 · subst h6
   exact zR
 by_cases h7:k=7
 · subst h7
   exact zR
 have e:refB k=false:=by simp[refB,h2,h3,h4,h6,h7]
 rw[e];clear e
 go_enter Tryz.func112,Tryz.ntmps112
 go_wp2_with fail
 go_ret;exact⟨rfl,(qAk _ _).alloc (qAi _) _⟩
theorem ksub (a b c d:Int) (w:World):Calls Tryz.prog 104 #[.agg #[.int .i64 a,.int .i64 b],.agg #[.int .i64 c,.int .i64 d]] w fun e w'=>e= .returned (.bool (subB a b c d))∧Below w.heap.size w w':=by
 have A0:=qAg (fun w=>kref a b w);have C0:=qAg (fun w=>kref c d w)
 by_cases h8:c=8
 · subst h8
   rw[show subB a b 8 d=true by simp[subB]]
   go_enter Tryz.func104,Tryz.ntmps104
   go_wp2_with fail
   all_goals(go_ret;exact⟨rfl,((qAk _ _).alloc (qAi _) _).alloc (by simp) _⟩)
 have e8:(c==8)=false:=by simpa using h8
 by_cases hac:a=c
 · subst hac
   by_cases hbd:b=d
   · subst hbd
     rw[show subB a b a b=true by simp[subB]]
     go_enter Tryz.func104,Tryz.ntmps104
     go_wp2_with fail
     exact zL
   have hne:(b==d)=false:=by simpa using hbd
   cases hra:refB a
   · rw[show subB a b a d=false by simp[subB,hra,hne,e8]]
     exact qg
   cases hrc:refB a
   · rw[show subB a b a d=false by simp[subB,hrc,hne,e8]]
     replace A0:=qAg qU;replace C0:=qAg qe;clear hra hrc;exact qD
   by_cases h6:a=6
   · rw[show subB a b a d=true by simp only[subB,hra,hrc];simp[h6]]
     replace A0:=qAg qU;replace C0:=qAg qe;clear hra hrc;have e6:(a==6)=true:=by simpa using h6
     clear h6;exact qD
   rw[show subB a b a d=(a==7) by simp[subB,hra,hrc,h6,hne,e8]];replace A0:=qAg qU;replace C0:=qAg qe;clear hra hrc;have e6:(a==6)=false:=by simpa using h6
   clear h6;exact qD
 have hne:(a==c)=false:=by simpa using hac
 cases hra:refB a
 · rw[show subB a b c d=false by simp[subB,hra,hne,e8]]
   exact qg
 cases hrc:refB c
 · rw[show subB a b c d=false by simp[subB,hrc,hne,e8]]
   replace A0:=qAg qU;replace C0:=qAg qe;clear hra hrc;exact qD
 by_cases h6:a=6
 · rw[show subB a b c d=true by simp only[subB,hra,hrc];simp[h6]]
   replace A0:=qAg qU;replace C0:=qAg qe;clear hra hrc;have e6:(a==6)=true:=by simpa using h6
   clear h6;exact qD
 rw[show subB a b c d=(c==7) by simp[subB,hra,hrc,h6,hne,e8]];replace A0:=qAg qU;replace C0:=qAg qe;clear hra hrc;have e6:(a==6)=false:=by simpa using h6
 clear h6
 go_enter Tryz.func104,Tryz.ntmps104
 go_wp2_with (first|(go_at_call 112;with_reducible refine(A0.out _).mono ?_;rintro e w1 ⟨rfl,hb1⟩;obtain⟨hc1,-⟩:=qBB hb1;have hz1:w.heap.size+1<w1.heap.size:=by {have:=hb1.size;simp at this;omega};have hz0:w.heap.size<w1.heap.size:=by omega)|(go_at_call 112;with_reducible refine(C0.out _).mono ?_;rintro e w2 ⟨rfl,hb2⟩;obtain⟨hc2,-⟩:=qBB hb2))
 go_ret;exact⟨rfl,((((qAk _ _).alloc (qAi _) _).alloc (by simp) _).trans (hb1.mono qK)).trans (hb2.mono (by omega))⟩
theorem qB3 (A B:Option Addr) (n m c d:Nat) (xs ys:List Typ) (w:World) (hl:xs.length=n) (hm:ys.length=m) (h:Sq typL (·<w.heap.size) w A xs) (h':Sq typL (·<w.heap.size) w B ys) (hn2:n≤9223372036854775807) (hm2:m≤9223372036854775807):
 Calls Tryz.prog 103 #[.slice A n c,.slice B m d,.func (.func 104) #[] #[]] w (Tells (belowT xs ys) w):=by
 have HL:=qAg hl;have HM:=qAg hm;have HS:=qAg h;have HT:=qAg h';clear hl hm h h'
 by_cases hnm:n=m
 · subst hnm
   go_enter Tryz.func103,Tryz.ntmps103
   go_wp2_with fail
   go_loopw [17] (fun i wr=>∃k:Nat,k≤n∧i= .int .i64 (k:Nat)∧belowT (xs.take k) (ys.take k)=true∧Below w.heap.size w wr) (fun i _=>n-(intOf i).toNat)
   case atStart=>exact⟨0,qAq _,rfl,by simp[belowT],qAk _ _⟩
   case round=>
    obtain⟨k,hk,rfl,heq,hbel⟩:=hrel;have HE:=qAg heq;refine jc ?_;intro HB hs;clear heq hbel
    by_cases hlt:k<n
    · skip
      refine jD ?_;intro x hx;obtain⟨y,hy⟩:∃y,ys[k]? =some y:=⟨ys[k]'(by rw[HM.out];exact hlt),List.getElem?_eq_getElem _⟩;obtain⟨a,cs,rfl,hab,hc,hr⟩:=HS.out.at hx;obtain⟨b,cs2,rfl,hbb,hc2,hr2⟩:=HT.out.at hy;have HX:=qAg hx;have HY:=qAg hy;clear hx hy;obtain⟨rfl,-,-⟩:=hr;obtain⟨rfl,-,-⟩:=hr2;refine jS ?_;intro c0 c1;rw[qAm a (k*2) 1 (by omega)] at c1;have k0:=fun ob=>((HB.out.alloc hs ob).cell (p:=b.add (k*2)) qW).trans (hc2 0 _ rfl);have k1:=fun ob=>((HB.out.alloc hs ob).cell (p:=b.add (k*2+1)) qW).trans (hc2 1 _ rfl);rw[qAm b (k*2) 1 (by omega)] at k1;have HP:Hid (∀w1,Calls Tryz.prog 104 #[.agg #[.int .i64 x.1,.int .i64 x.2],.agg #[.int .i64 y.1,.int .i64 y.2]] w1 (Tells (subT x y) w1)):=fun w1=>ksub x.1 x.2 y.1 y.2 w1;clear hc hc2
      cases hg:subT x y
      all_goals
       rw[hg] at HP;have HG:=qAg hg;clear hg
       go_wp2_with (first
        |(go_at_call 104
          refine(HP.out _).mono ?_;rintro e w2 ⟨rfl,hb2⟩;have Hb2:=qAg (((HB.out.alloc hs _).alloc qK _).trans (hb2.mono qK));clear hb2))
      · go_ret
        exact⟨by rw[qEs HX.out HY.out HG.out];rfl,Hb2.out⟩
      · refine⟨⟨k+1,by omega,by simp,qEJ HE.out HX.out HY.out HG.out,Hb2.out⟩,by simp[intOf];omega⟩
    · obtain rfl:k=n:=by omega
      go_wp2_with fail
      go_ret;refine⟨?_,HB.out⟩;have e:=HE.out;rw[qAn qO,qAn (by rw[HM.out];exact qAi _)] at e;rw[e]
      rfl
 · have h1:((n:Int) != (m:Int))=true:=by simp;omega
   have h2:(n != m)=true:=by simpa using hnm
   have HNM:=qAg hnm;clear hnm
   go_enter Tryz.func103,Tryz.ntmps103
   go_wp2_with fail
   go_ret;refine⟨?_,qAk _ _⟩;rw[qEZ (fun e=>HNM.out (by rw[←HL.out,←HM.out,e]))]
   rfl
end Go.Proofs.YtelceoecekfamaaGreat
