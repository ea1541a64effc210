/-
Fl Tyr Fp Knd Eft Ctt Fonw Fcp
-/
import Derived.Test.YtconajaecpgjgaaGreatQ01
import Derived.Test.YtconajaecpgjgaaGreatQ02
import Derived.Test.YtconajaecpgjgaaGreatQ08
import Derived.Test.YtconajaecpgjgaaGreatQ12
import Derived.Lib.AppendZeros
import Derived.Deep.RegionHeld3
import Derived.Deep.RegionWith
import Derived.Lib.QuietBelow
import Derived.BigQuiet
set_option linter.unusedSimpArgs false
set_option linter.unusedVariables false
set_option maxRecDepth 100000
set_option maxHeartbeats 1000000
namespace Go.Proofs.YtconajaecpgjgaaGreat
open Go.RowKit
theorem qO {P:Prop} (h:P:=by
 go_enter Tryz.func122,Tryz.ntmps122
 go_wp2_with (first|(go_at_call 153;with_reducible refine(A0.out _).mono ?_;rintro e w1 ⟨rfl,hb1⟩;obtain⟨hc1,-⟩:=qBZ hb1;have hz1:w.heap.size+1<w1.heap.size:=by {have:=hb1.size;simp at this;omega};have hz0:w.heap.size<w1.heap.size:=by omega)|(go_at_call 153;with_reducible refine(C0.out _).mono ?_;rintro e w2 ⟨rfl,hb2⟩;obtain⟨hc2,-⟩:=qBZ hb2))
 go_ret
 exact⟨rfl,((((qAb _ _).alloc (qAZ _) _).alloc (by simp) _).trans (hb1.mono (by simp;omega))).trans (hb2.mono (by omega))⟩):P:=h
theorem jB {P:Prop} (h:P:=by
 replace A0:=qAU qz
 clear hra
 go_enter Tryz.func122,Tryz.ntmps122
 go_wp2_with (first|(go_at_call 153;with_reducible refine(A0.out _).mono ?_;rintro e w1 ⟨rfl,hb1⟩;obtain⟨hc1,-⟩:=qBZ hb1;have hz1:w.heap.size+1<w1.heap.size:=by {have:=hb1.size;simp at this;omega};have hz0:w.heap.size<w1.heap.size:=by omega))
 go_ret
 exact⟨rfl,(((qAb _ _).alloc (qAZ _) _).alloc (by simp) _).trans (hb1.mono qg)⟩):P:=h
theorem jq {P:Prop} (h:P:=by
 go_enter Tryz.func153,Tryz.ntmps153
 exact qK):P:=h
def subT (a b:Typ):Bool:=subB a.1 a.2 b.1 b.2
def belowT:List Typ→List Typ→Bool
 |[],[]=>true
 |a::xs,b::ys=>subT a b && belowT xs ys
 |_,_=>false
def locB (f:Fn) (n:Int):Typ:=if n<0 then (8,0) else ((f.args++f.locs)[n.toNat]?).getD (8,0)
def fldB (m:Mod) (a b:Int):Typ:=(((m.recs[a.toNat]?).getD [])[b.toNat]?).getD (0,0)
def ruleB (m:Mod) (f:Fn) (i:Ins) (s:List Typ):Option (List Typ×List Typ):=
 if i.1=0 then some ([],[(1,0)])
 else if i.1=1 then some ([],[(2,0)])
 else if i.1=2 then some ([],[(6,0)])
 else if i.1=3 then some ([],[locB f i.2.1])
 else if i.1=4 then some ([locB f i.2.1],[])
 else if i.1=5 then some ([(8,0)],[])
 else if i.1=6 then (match s.reverse with|x::_=>some ([x],[x,x])|_=>none)
 else if i.1=7 then (match s.reverse with|x::y::_=>some ([y,x],[x,y])|_=>none)
 else if i.1=22 then some ([(1,0),(1,0)],[(1,0),(1,0)])
 else if i.1=23 then some ([],[])
 else if i.1=24 then some ([(1,0)],[])
 else if i.1=25 then (match m.funcs[i.2.1.toNat]? with|some g=>some (g.args,[g.ret])|none=>none)
 else if i.1=26 then some ([f.ret],[])
 else if i.1=27 then (match m.imps[i.2.1.toNat]? with|some g=>some (g.args,[g.ret])|none=>none)
 else if i.1=28 then (match m.recs[i.2.1.toNat]? with|some r=>some (r,[(4,i.2.1)])|none=>none)
 else if i.1=29 then some ([(4,i.2.1)],[fldB m i.2.1 i.2.2])
 else if i.1=30 then some ([(4,i.2.1),fldB m i.2.1 i.2.2],[])
 else if i.1=31 then some ([(1,0)],[(3,0)])
 else if i.1=32 then some ([(3,0),(1,0)],[(1,0)])
 else if i.1=33 then some ([(3,0),(1,0),(1,0)],[])
 else if i.1=34 then some ([(3,0)],[(1,0)])
 else if i.1=35 then some ([(1,0)],[(2,0)])
 else if i.1=36 then some ([(2,0),(1,0)],[(1,0)])
 else if i.1=37 then some ([(2,0),(1,0),(1,0)],[])
 else if i.1=38 then some ([(2,0)],[(1,0)])
 else if i.1=39 then some ([(7,0)],[(1,0)])
 else if i.1=40 then some ([(7,0),(7,0)],[(1,0)])
 else if i.1=41 then (match s.reverse with|x::_=>if x.1=5 then some ([x],[]) else none|_=>none)
 else some ([(1,0),(1,0)],[(1,0)])
def movB (s ins outs:List Typ):Option (List Typ):=
 if ins.length≤s.length∧s.length-ins.length+outs.length≤8∧belowT (s.drop (s.length-ins.length)) ins=true then some (s.take (s.length-ins.length)++outs) else none
def nextB (f:Fn) (i:Ins) (pc:Nat):Option (List Int):=
 if i.1=26 then some [] else if i.1=23 then some [i.2.1] else if f.code.length≤pc+1 then none else if i.1=24 then some [(pc:Int)+1,i.2.1] else some [(pc:Int)+1]
def insB8 (m:Mod) (f:Fn) (i:Ins) (pc:Nat) (s:List Typ):Int×List Typ×List Int:=
 match ruleB m f i s with
 |none=>(4,[],[])
 |some (ins,outs)=>match movB s ins outs with
  |none=>(4,[],[])
  |some t=>match nextB f i pc with
   |none=>(1,[],[])
   |some l=>(0,t,l)
def flowB (m:Mod) (f pc:Int) (s:List Typ):Int×List Typ×List Int:=
 if checkN m≠0∨f<0∨pc<0 then (1,[],[])
 else match m.funcs[f.toNat]? with
  |none=>(1,[],[])
  |some fn=>match fn.code[pc.toNat]? with
   |none=>(1,[],[])
   |some i=>insB8 m fn i pc.toNat s
theorem qCL (a:Typ):subT a a=true:=by simp[subT,subB]
theorem qGe {a b c:Typ} (h1:subT a b=true) (h2:subT b c=true):subT a c=true:=by
 obtain⟨a,a'⟩:=a
 obtain⟨b,b'⟩:=b
 obtain⟨c,c'⟩:=c
 simp only[subT,subB,refB,Bool.or_eq_true,Bool.and_eq_true,beq_iff_eq] at h1 h2⊢
 omega
theorem qBe {a b:List Typ} (h:belowT a b=true):a.length=b.length:=by
 induction a generalizing b with
 |nil=>cases b<;>simp[belowT] at h⊢
 |cons x a ih=>
  cases b with
  |nil=>simp[belowT] at h
  |cons y b=>simp only[belowT,Bool.and_eq_true] at h;simp[ih h.2]
theorem qGN (a:List Typ):belowT a a=true:=by
 induction a with
 |nil=>rfl
 |cons x a ih=>simp[belowT,qCL,ih]
theorem qDN {a b c:List Typ} (h1:belowT a b=true) (h2:belowT b c=true):belowT a c=true:=by
 induction a generalizing b c with
 |nil=>cases b<;>cases c<;>simp[belowT] at h1 h2⊢
 |cons x a ih=>
  cases b with
  |nil=>simp[belowT] at h1
  |cons y b=>
   cases c with
   |nil=>simp[belowT] at h2
   |cons z c=>
    simp only[belowT,Bool.and_eq_true] at h1 h2⊢
    exact⟨qGe h1.1 h2.1,ih h1.2 h2.2⟩
theorem qEU {a b c d:List Typ} (h1:belowT a b=true) (h2:belowT c d=true):belowT (a++c) (b++d)=true:=by
 induction a generalizing b with
 |nil=>cases b<;>simp[belowT] at h1 ⊢;exact h2
 |cons x a ih=>
  cases b with
  |nil=>simp[belowT] at h1
  |cons y b=>
   simp only[belowT,Bool.and_eq_true,List.cons_append] at h1⊢
   exact⟨h1.1,ih h1.2⟩
theorem qDj {a b:List Typ} (h:belowT a b=true) (n:Nat):belowT (a.take n) (b.take n)=true:=by
 induction a generalizing b n with
 |nil=>cases b<;>simp[belowT] at h⊢
 |cons x a ih=>
  cases b with
  |nil=>simp[belowT] at h
  |cons y b=>
   simp only[belowT,Bool.and_eq_true] at h
   cases n with
   |zero=>rfl
   |succ n=>simp only[List.take_succ_cons,belowT,Bool.and_eq_true];exact⟨h.1,ih h.2 n⟩
theorem qDk {a b:List Typ} (h:belowT a b=true) (n:Nat):belowT (a.drop n) (b.drop n)=true:=by
 induction a generalizing b n with
 |nil=>cases b<;>simp[belowT] at h⊢
 |cons x a ih=>
  cases b with
  |nil=>simp[belowT] at h
  |cons y b=>
   cases n with
   |zero=>exact h
   |succ n=>
    simp only[belowT,Bool.and_eq_true] at h
    simpa using ih h.2 n
theorem qCr {a b:List Typ} {x y:Typ} (h:belowT (a++[x]) (b++[y])=true):belowT a b=true∧subT x y=true:=by
 have hl:=qBe h
 simp at hl
 refine⟨?_,?_⟩
 · have:=qDj h a.length
   rwa [List.take_append_of_le_length (qAZ _),List.take_length,hl,List.take_append_of_le_length (qAZ _),List.take_length] at this
 · have:=qDk h a.length
   rw[List.drop_append_of_le_length (qAZ _),List.drop_length,hl,List.drop_append_of_le_length (qAZ _),List.drop_length] at this
   simpa[belowT] using this
theorem qGi {m:Mod} {f:Fn} {i:Ins} {a b ins outs:List Typ} (h:belowT a b=true) (hr:ruleB m f i b=some (ins,outs)):
 ∃ins' outs',ruleB m f i a=some (ins',outs')∧ins'.length=ins.length∧belowT outs' outs=true∧(belowT (b.drop (b.length-ins.length)) ins=true→belowT (a.drop (a.length-ins'.length)) ins'=true):=by
 have hlen:=qBe h
 have same:ruleB m f i a=ruleB m f i b→∃ins' outs',ruleB m f i a=some (ins',outs')∧ins'.length=ins.length∧belowT outs' outs=true∧(belowT (b.drop (b.length-ins.length)) ins=true→belowT (a.drop (a.length-ins'.length)) ins'=true):=fun e=>
  ⟨ins,outs,by rw[e,hr],rfl,qGN _,fun hb=>qDN (by rw[hlen];exact qDk h _) hb⟩
 have tops:∀{y:Typ} {r:List Typ},b.reverse=y::r→∃x q,a.reverse=x::q∧subT x y=true∧belowT q.reverse r.reverse=true:=fun {y r} hb=>by
  cases ha:a.reverse with
  |nil=>
   have e1:=congrArg List.length ha
   have e2:=congrArg List.length hb
   rw[List.length_reverse] at e1 e2
   simp only[List.length_nil,List.length_cons] at e1 e2
   omega
  |cons x q=>
   have ea:a=q.reverse++[x]:=by rw[←List.reverse_reverse a,ha];simp
   have eb:b=r.reverse++[y]:=by rw[←List.reverse_reverse b,hb];simp
   rw[ea,eb] at h
   exact⟨x,q,rfl,(qCr h).2,(qCr h).1⟩
 have end1:∀{x:Typ} {q:List Typ},a.reverse=x::q→a.drop (a.length-1)=[x]:=fun {x q} ha=>by
  have ea:a=q.reverse++[x]:=by rw[←List.reverse_reverse a,ha];simp
  rw[ea]
  simp
 have end2:∀{x y:Typ} {q:List Typ},a.reverse=x::y::q→a.drop (a.length-2)=[y,x]:=fun {x y q} ha=>by
  have ea:a=q.reverse++[y,x]:=by rw[←List.reverse_reverse a,ha];simp
  rw[ea]
  simp
 by_cases h6:i.1=6
 · cases hb:b.reverse with
   |nil=>simp[ruleB,h6,hb] at hr
   |cons y r=>
    obtain⟨x,q,ha,hs,-⟩:=tops hb
    simp[ruleB,h6,hb] at hr
    obtain⟨rfl,rfl⟩:=hr
    exact⟨[x],[x,x],by simp[ruleB,h6,ha],rfl,by simp[belowT,hs],fun _=>by rw[List.length_singleton,end1 ha];simp[belowT,qCL]⟩
 by_cases h7:i.1=7
 · cases hb:b.reverse with
   |nil=>simp[ruleB,h7,hb] at hr
   |cons y r=>
    cases r with
    |nil=>simp[ruleB,h7,hb] at hr
    |cons y2 r=>
     obtain⟨x,q,ha,hs,hq⟩:=tops hb
     cases q with
     |nil=>
      have:=qBe hq
      simp at this
     |cons x2 q=>
      simp only[List.reverse_cons] at hq
      have hs2:=(qCr hq).2
      simp[ruleB,h7,hb] at hr
      obtain⟨rfl,rfl⟩:=hr
      exact⟨[x2,x],[x,x2],by simp[ruleB,h7,ha],rfl,by simp[belowT,hs,hs2],fun _=>by rw[show[x2,x].length=2 from rfl,end2 ha];simp[belowT,qCL]⟩
 by_cases h41:i.1=41
 · cases hb:b.reverse with
   |nil=>simp[ruleB,h41,hb] at hr
   |cons y r=>
    obtain⟨x,q,ha,hs,-⟩:=tops hb
    by_cases hy:y.1=5
    · have hx:x.1=5:=by
       simp only[subT,subB,refB,Bool.or_eq_true,Bool.and_eq_true,beq_iff_eq] at hs
       omega
      simp[ruleB,h41,hb,hy] at hr
      obtain⟨rfl,rfl⟩:=hr
      exact⟨[x],[],by simp[ruleB,h41,ha,hx],rfl,rfl,fun _=>by rw[List.length_singleton,end1 ha];simp[belowT,qCL]⟩
    · simp[ruleB,h41,hb,hy] at hr
 · exact same (by simp only[ruleB,h6,h7,h41,if_false])
theorem qIA {m:Mod} {f:Fn} {i:Ins} {pc:Nat} {a b t:List Typ} {l:List Int} (h:belowT a b=true) (hf:insB8 m f i pc b=(0,t,l)):∃s,insB8 m f i pc a=(0,s,l)∧belowT s t=true:=by
 have hlen:=qBe h
 cases hr:ruleB m f i b with
 |none=>simp[insB8,hr] at hf
 |some p=>
  obtain⟨ins,outs⟩:=p
  obtain⟨ins',outs',hr',hl,ho,hb⟩:=qGi h hr
  have hol:=qBe ho
  cases hm:movB b ins outs with
  |none=>simp[insB8,hr,hm] at hf
  |some u=>
   cases hn:nextB f i pc with
   |none=>simp[insB8,hr,hm,hn] at hf
   |some q=>
    simp[insB8,hr,hm,hn] at hf
    obtain⟨rfl,rfl⟩:=hf
    unfold movB at hm
    split at hm
    · rename_i hc
      obtain⟨c1,c2,c3⟩:=hc
      injection hm with hm
      subst hm
      refine⟨a.take (a.length-ins'.length)++outs',?_,qEU (by rw[hlen,hl];exact qDj h _) ho⟩
      simp only[insB8,hr',hn,movB]
      rw[if_pos ⟨by omega,by omega,hb c3⟩]
    · cases hm
theorem qES {xs ys:List Typ} {k:Nat} {x y:Typ} (h:belowT (xs.take k) (ys.take k)=true) (hx:xs[k]? =some x) (hy:ys[k]? =some y) (hs:subT x y=true):belowT (xs.take (k+1)) (ys.take (k+1))=true:=by
 obtain⟨hk,rfl⟩:=qAc.1 hx
 obtain⟨hk2,rfl⟩:=qAc.1 hy
 rw[qAo hk,qAo hk2]
 exact qEU h (by simp[belowT,hs])
theorem qEy {xs ys:List Typ} {k:Nat} {x y:Typ} (hx:xs[k]? =some x) (hy:ys[k]? =some y) (hs:subT x y=false):belowT xs ys=false:=by
 induction xs generalizing ys k with
 |nil=>simp at hx
 |cons a xs ih=>
  cases ys with
  |nil=>rfl
  |cons b ys=>
   cases k with
   |zero=>simp at hx hy;subst hx hy;simp[belowT,hs]
   |succ k=>simp only[belowT,ih (k:=k) (by simpa using hx) (by simpa using hy),Bool.and_false]
theorem qEh {xs ys:List Typ} (h:xs.length≠ys.length):belowT xs ys=false:=by
 cases hb:belowT xs ys
 · rfl
 · exact absurd (qBe hb) h
def T2:List Typ→List Value
 |[]=>[]
 |t::ts=> .int .i64 t.1:: .int .i64 t.2::T2 ts
theorem T2_app (ts us:List Typ):T2 (ts++us)=T2 ts++T2 us:=by
 induction ts with
 |nil=>rfl
 |cons t ts ih=>simp[T2,ih]
theorem qDc (ts:List Typ):(T2 ts).length=ts.length*2:=by
 induction ts with
 |nil=>rfl
 |cons t ts ih=>simp[T2,ih];omega
theorem qD1 {ts:List Typ} {j:Nat} {t:Typ} (h:ts[j]? =some t):(T2 ts)[j*2]? =some (.int .i64 t.1):=by
 induction ts generalizing j with
 |nil=>simp at h
 |cons u ts ih=>
  cases j with
  |zero=>simp at h;subst h;simp[T2]
  |succ j=>rw[show(j+1)*2=j*2+1+1 by omega];simp[T2];exact ih jL
theorem qD0 {ts:List Typ} {j:Nat} {t:Typ} (h:ts[j]? =some t):(T2 ts)[j*2+1]? =some (.int .i64 t.2):=by
 induction ts generalizing j with
 |nil=>simp at h
 |cons u ts ih=>
  cases j with
  |zero=>simp at h;subst h;simp[T2]
  |succ j=>rw[show(j+1)*2+1=j*2+1+1+1 by omega];simp[T2];exact ih jL
theorem T2_one (ts:List Typ):∀u∈T2 ts,u.oneCell'=true:=by
 induction ts with
 |nil=>simp[T2]
 |cons t ts ih=>
  intro u hu
  simp only[T2,List.mem_cons] at hu
  rcases hu with rfl|rfl|hu
  · rfl
  · rfl
  · exact ih u hu
def A64 (ts:List Typ):Prop:=∀t∈ts,I64 t.1∧I64 t.2
theorem A64.app {ts us:List Typ} (h:A64 ts) (h':A64 us):A64 (ts++us):=fun t ht=>by
 rcases List.mem_append.1 ht with h1|h1
 · exact h t h1
 · exact h' t h1
theorem A64.take {ts:List Typ} (h:A64 ts) (k:Nat):A64 (ts.take k):=fun t ht=>h t (List.mem_of_mem_take ht)
theorem A64.drop {ts:List Typ} (h:A64 ts) (k:Nat):A64 (ts.drop k):=fun t ht=>h t (List.mem_of_mem_drop ht)
theorem A64.nil:A64 []:=fun t ht=>by simp at ht
theorem A64.one {t:Typ} (h:I64 t.1) (h':I64 t.2):A64 [t]:=fun u hu=>by simp at hu;subst hu;exact⟨h,h'⟩
theorem Sq.a64 {S:Nat→Prop} {w:World} {A:Option Addr} {ts:List Typ} (h:Sq typL S w A ts):A64 ts:=fun t ht=>by
 obtain⟨j,hj⟩:=qA6.1 ht
 obtain⟨a,cs,-,-,-,hr⟩:=h.at hj
 exact hr.2
theorem Sq.take {α:Type} {L:Lay α} {S:Nat→Prop} {w:World} {A:Option Addr} {xs:List α} (h:Sq L S w A xs) (k:Nat):Sq L S w A (xs.take k):=fun hn=>by
 have hl:(xs.take k).length≤xs.length:=by simp;omega
 obtain⟨a,e,hs,hc⟩:=h (by omega)
 refine⟨a,e,hs,fun j x hx=>hc j x ?_⟩
 have hj:j<k:=by
  have:=(qAc.1 hx).1
  simp at this
  omega
 rwa [List.getElem?_take_of_lt hj] at hx
theorem Sq.drop {α:Type} {L:Lay α} {S:Nat→Prop} {w:World} {A:Option Addr} {xs:List α} (h:Sq L S w A xs) (k:Nat):Sq L S w (A.map (·.add (k*L.k))) (xs.drop k):=fun hn=>by
 have hl:(xs.drop k).length=xs.length-k:=by simp
 obtain⟨a,e,hs,hc⟩:=h (by omega)
 refine⟨a.add (k*L.k),by rw[e];rfl,by rw[qAz];exact hs,fun j x hx=> ?_⟩
 rw[List.getElem?_drop] at hx
 obtain⟨cs,h1,h2⟩:=hc (k+j) x hx
 refine⟨cs,fun i u hu=> ?_,h2⟩
 rw[qEZ,←h1 i u hu,Nat.add_mul,Nat.add_assoc]
theorem qC8 {w:World} {base n:Nat} {v:Value} {ts:List Typ} (h:w.ownsRow base 58 2 v n (T2 ts)) (ha:A64 ts):
 ∃A c,v= .slice A n c∧n=ts.length∧n≤c∧c≤maxLen∧Sq typL (fun b=>base≤b∧b<w.heap.size) w A ts:=by
 have hn:n=ts.length:=by have:=h.1;rw[qDc] at this;omega
 rcases h.2 with⟨rfl,h0⟩|⟨g,cap,cur,rfl,hb,hg,hnc,hcm,_,_⟩
 · refine⟨none,0,by rw[h0],hn,by omega,by simp[maxLen],fun hpos=>absurd hpos (by omega)⟩
 · refine⟨some ⟨g,0,none⟩,cap,rfl,hn,hnc,hcm,fun _=>⟨⟨g,0,none⟩,rfl,⟨hb,(Array.getElem?_eq_some_iff.1 hg).1⟩,fun j t hj=>⟨_,fun i u hu=> ?_,rfl,ha t (qAf hj)⟩⟩⟩
   match i,hu with
   |0,hu=>simp at hu;subst hu;exact h.cells rfl (j*2) _ (qD1 hj)
   |1,hu=>simp at hu;subst hu;exact h.cells rfl (j*2+1) _ (qD0 hj)
   |i+2,hu=>simp at hu
theorem qBz (w:World):(w.alloc (.cells #[] 58)).ownsRow w.heap.size 58 2 (.slice (some ⟨w.heap.size,0,none⟩) 0 0) 0 (T2 []):=
 World.ownsRow_made w #[] 0 (qAZ _) (by simp[maxLen]) (by simp)
theorem qI9 {S:Nat→Prop} {w:World} {a:Addr} {ts:List Typ} (h:Sq typL S w (some a) ts):∀j u,(T2 ts)[j]? =some u→w.cell? (a.add j)=some u:=fun j u hu=>by
 have hj:=(qAc.1 hu).1
 rw[qDc] at hj
 obtain⟨a',e,-,hc⟩:=h (by omega)
 injection e with e
 subst e
 obtain⟨t,ht⟩:∃t,ts[j / 2]? =some t:=⟨ts[j / 2]'(by omega),qAY _⟩
 obtain⟨cs,h1,rfl,-⟩:=hc _ t ht
 rcases Nat.mod_two_eq_zero_or_one j with e|e
 · have ej:j=j / 2*2:=by omega
   have k0:=h1 0 _ rfl
   rw[ej,qD1 ht] at hu
   injection hu with hu
   subst hu
   rw[show j / 2*typL.k+0=j by show j / 2*2+0=j;omega] at k0
   exact k0
 · have ej:j=j / 2*2+1:=by omega
   have k0:=h1 1 _ rfl
   rw[ej,qD0 ht] at hu
   injection hu with hu
   subst hu
   rw[show j / 2*typL.k+1=j by show j / 2*2+1=j;omega] at k0
   exact k0
theorem qFe:(Tryz.prog.info? 58).map (fun i=>(i.zero,i.size,i.bytes))=some (some (.agg #[.int .i64 0,.int .i64 0]),2,16):=by kernel_rfl
theorem qCk (w:World) (base ty:Nat) (v:Value) (n:Nat) (xs:List Typ) (hown:w.ownsRow base 58 2 v n (T2 xs)) (A:Option Addr) (m c:Nat) (ys:List Typ) (hm:ys.length=m)
 (S:Nat→Prop) (hy:Sq typL S w A ys) (hbig:n+m≤1000000000) (hbase:base≤w.heap.size):
 ∃v' w',(Builtin.append_ #[56,56] ty #[v,.slice A m c]).run Tryz.prog w= .ok v' w'∧w'.ownsRow base 58 2 v' (n+m) (T2 (xs++ys))∧w.grownBy w' v.ownBlock∧
  (v'.ownBlock=v.ownBlock∨v'.ownBlock=some w.heap.size):=by
 obtain⟨i0,hi0,hz0,hz1,hz2⟩:=info_parts qFe
 rw[T2_app]
 rcases A with _|a
 · have h0:m=0:=by
    rcases Nat.eq_zero_or_pos m with h|h
    · exact h
    · obtain⟨a,h,_⟩:=hy (by omega)
      cases h
   subst h0
   obtain rfl:ys=[]:=qAv hm
   refine⟨v,w,?_,by simpa[T2] using hown,⟨rfl,rfl,rfl,qAZ _,fun _ _ _=>rfl⟩,.inl rfl⟩
   have ht:=run_underlying (P:=Tryz.prog) (w:=w) Tryz.underlying56
   exact jO
 · obtain⟨v',w',hrun,h2,h3,_,h5⟩:=run_append_own_at (P:=Tryz.prog) w base 56 ty 58 i0 (.agg #[.int .i64 0,.int .i64 0]) 2 16 Tryz.underlying56 hi0 hz0 hz1 hz2 rfl (by omega) v n (T2 xs) hown a m c (T2 ys) (by rw[qDc];omega) (qI9 hy) (T2_one ys)
    j7 (by omega) hbase
   exact⟨v',w',hrun,h2,h3,h5⟩
theorem qBP (w:World) {ops:Array Oper} {rest:List Oper} {o:Oper} {a:Act} {Q:Exit→Act→World→Prop} (hgd:o.guard=none) (s x:Operand)
 (ho:o.op= .call {callee:= .builtin .append,args:= #[s,x],argTypes:= #[56,56]})
 (base:Nat) (v:Value) (n:Nat) (xs:List Typ) (hs:a.eval s=v) (hown:w.ownsRow base 58 2 v n (T2 xs)) (A:Option Addr) (m c:Nat) (ys:List Typ) (hx:a.eval x= .slice A m c) (hm:ys.length=m)
 (S:Nat→Prop) (hy:Sq typL S w A ys) (hbig:n+m≤1000000000) (hbase:base≤w.heap.size)
 (h:∀v' w',w'.ownsRow base 58 2 v' (n+m) (T2 (xs++ys))→w.grownBy w' v.ownBlock→(v'.ownBlock=v.ownBlock∨v'.ownBlock=some w.heap.size)→wpList Tryz.prog ops Q rest (a.put o.dst v') w'):
 wpList Tryz.prog ops Q (o::rest) a w:=by
 refine wpList_plain hgd fun _ hK=> ?_
 obtain⟨v',w',hrun,h2,h3,h4⟩:=qCk w base o.type v n xs hown A m c ys hm S hy hbig hbase
 unfold Oper.wp execOp
 simp only[ho,resolve,invoke,builtin,Sem.run_bind,Sem.run_pure,Result.andThen_ok,List.map_toArray,List.map_cons,List.map_nil,hs,hx,hrun]
 exact hK _ _ (h v' w' h2 h3 h4)
theorem qCg (w:World) {ops:Array Oper} {o:Oper} {a:Act} {K:Act→World→Prop} {Q:Exit→Act→World→Prop} {E:Prop} (hgd:o.guard=none) (s x:Operand)
 (ho:o.op= .call {callee:= .builtin .append,args:= #[s,x],argTypes:= #[56,56]})
 (base:Nat) (v:Value) (n:Nat) (xs:List Typ) (hs:a.eval s=v) (hown:w.ownsRow base 58 2 v n (T2 xs)) (A:Option Addr) (m c:Nat) (ys:List Typ) (hx:a.eval x= .slice A m c) (hm:ys.length=m)
 (S:Nat→Prop) (hy:Sq typL S w A ys) (hbig:n+m≤1000000000) (hbase:base≤w.heap.size)
 (h:∀v' w',w'.ownsRow base 58 2 v' (n+m) (T2 (xs++ys))→w.grownBy w' v.ownBlock→(v'.ownBlock=v.ownBlock∨v'.ownBlock=some w.heap.size)→K (a.put o.dst v') w'):
 if Region.wanted o (yielded ops a.tmps)=true then Oper.wp Tryz.prog o a w K Q else E:=by
 have hw:Region.wanted o (yielded ops a.tmps)=true:=by simp[Region.wanted,hgd]
 rw[if_pos hw]
 obtain⟨v',w',hrun,h2,h3,h4⟩:=qCk w base o.type v n xs hown A m c ys hm S hy hbig hbase
 unfold Oper.wp execOp
 simp only[ho,resolve,invoke,builtin,Sem.run_bind,Sem.run_pure,Result.andThen_ok,List.map_toArray,List.map_cons,List.map_nil,hs,hx,hrun]
 exact h v' w' h2 h3 h4
theorem qEa (w:World) {ops:Array Oper} {rest:List Oper} {o:Oper} {a:Act} {Q:Exit→Act→World→Prop} (hgd:o.guard=none) (s x:Operand)
 (ho:o.op= .call {callee:= .builtin .append,args:= #[s,x],argTypes:= #[56,3]})
 (n:Nat) (h0:0<n) (hn:n≤1000000000) (hs:a.eval s= .slice none 0 0) (hx:a.eval x= .int .i64 (n:Nat))
 (h:∀G w',n≤G→G≤maxLen→w'.ownsRow w.heap.size 58 2 (.slice (some ⟨w.heap.size,0,none⟩) 0 G) 0 (T2 [])→Below w.heap.size w w'→wpList Tryz.prog ops Q rest (a.put o.dst (.slice (some ⟨w.heap.size,0,none⟩) n G)) w'):
 wpList Tryz.prog ops Q (o::rest) a w:=by
 obtain⟨i0,hi0,hz0,hz1,hz2⟩:=info_parts qFe
 refine wpList_plain hgd fun _ hK=> ?_
 have hrun:=Lib.run_append_nil_zeros (P:=Tryz.prog) w 56 3 o.type 58 i0 (.agg #[.int .i64 0,.int .i64 0]) .i64 .i64 Tryz.underlying56 Tryz.underlying3 hi0 hz0 n h0 (by omega) (by omega) (by rw[hz2];omega)
 have hG:=grownCap_ge w n 0 58
 have hG2:=grownCap_le_maxLen w n 0 58 (by unfold maxLen;omega)
 generalize grownCap w n 0 58=G at hrun hG hG2
 unfold Oper.wp execOp
 simp only[ho,resolve,invoke,builtin,Sem.run_bind,Sem.run_pure,Result.andThen_ok,List.map_toArray,List.map_cons,List.map_nil,hs,hx,hrun]
 refine hK _ _ (h G _ hG hG2 ?_ ((qAb _ w).drew.alloc (qAZ _) _))
 refine World.ownsRow_made (base:=w.heap.size) (e:=58) (size:=2) w.drew _ G (qAZ _) hG2 ?_
 simp[Builtin.zeroCells,Value.cells]
 omega
def Is (l:List Int):List Value:=l.map fun x=>Value.int .i64 x
theorem qI3 (l:List Int):(Is l).length=l.length:=by simp[Is]
theorem qKl {l:List Int} {j:Nat} {x:Int} (h:l[j]? =some x):(Is l)[j]? =some (.int .i64 x):=by simp[Is,h]
def TypIs (t:Typ) (w:World) (e:Ending) (w':World):Prop:=e= .returned (.agg #[.int .i64 t.1,.int .i64 t.2])∧Below w.heap.size w w'
theorem qAu {B R:Nat} {w W:World} {u v:Value} (h:Below B w W) (hR:B≤R):Below B w ((W.setCell ⟨R,0,none⟩ u).setCell ⟨R,1,none⟩ v):=(h.setCell (p:=⟨R,0,none⟩) hR u).setCell (p:=⟨R,1,none⟩) hR v
theorem qAe (w:World) (o:Obj):Below w.heap.size w (w.alloc o):=(qAb _ w).alloc (qAZ _) o
theorem qAp (k:Int) (w:World):Calls Tryz.prog 145 #[.int .i64 k] w (TypIs (k,0) w):=by
 go_enter Tryz.func145,Tryz.ntmps145
 go_wp2_with fail
 exact bodyPost_ret (v:= .agg #[.int .i64 k,.int .i64 0]) (by simp[results,Tryz.results145,go_sem]) rfl ⟨rfl,qAe _ _⟩
theorem qAx (A:Option Addr) (n c:Nat) (w:World):Calls Tryz.prog 146 #[.slice A n c] w fun e w'=>e= .returned (.agg #[.slice A n c,.slice none 0 0])∧Below w.heap.size w w':=by
 go_enter Tryz.func146,Tryz.ntmps146
 go_wp2_with fail
 exact bodyPost_ret (v:= .agg #[.slice A n c,.slice none 0 0]) (by simp[results,Tryz.results146,go_sem]) rfl ⟨rfl,qAe _ _⟩
theorem qA2 (A B:Option Addr) (n c m d:Nat) (w:World):Calls Tryz.prog 147 #[.agg #[.slice A n c,.slice none 0 0],.slice B m d] w fun e w'=>e= .returned (.agg #[.slice A n c,.slice B m d])∧Below w.heap.size w w':=by
 go_enter Tryz.func147,Tryz.ntmps147
 go_wp2_with fail
 exact bodyPost_ret (v:= .agg #[.slice A n c,.slice B m d]) (by simp[results,Tryz.results147,go_sem]) rfl ⟨rfl,(qAe _ _).alloc (by simp) _⟩
def topB (s:List Typ) (n:Nat):Typ:=if n<s.length then (s[s.length-1-n]?).getD (8,0) else (8,0)
theorem qCJ (A:Option Addr) (n c k:Nat) (ts:List Typ) (w:World) (hl:ts.length=n) (h:Sq typL (·<w.heap.size) w A ts) (hn:n≤9223372036854775807) (hk:k≤1):
 Calls Tryz.prog 149 #[.slice A n c,.int .i64 (k:Nat)] w (TypIs (topB ts k) w):=by
 by_cases hkn:k<n
 · obtain⟨t,ht⟩:∃t,ts[n-1-k]? =some t:=⟨ts[n-1-k]'(by omega),qAY _⟩
   have HT:Hid (topB ts k=t):=by
    show topB ts k=t
    rw[topB,hl,if_pos hkn,ht]
    rfl
   obtain⟨a,cs,rfl,hab,hc,hr⟩:=h.at ht
   obtain⟨rfl,-,-⟩:=hr
   obtain⟨j,hj⟩:∃j:Nat,n-1-k=j:=⟨_,rfl⟩
   rw[hj] at hc
   have e1:(n:Int)-1-(k:Int)=(j:Int):=by omega
   have j1:(j:Int)<(n:Int):=by omega
   have k1:¬((n:Int)≤(k:Int)):=by omega
   have c0:=fun ob=>(qAe w ob).cell (p:=a.add (j*2)) qG |>.trans (hc 0 _ rfl)
   have c1:=fun ob=>(qAe w ob).cell (p:=a.add (j*2+1)) qG |>.trans (hc 1 _ rfl)
   rw[qAg a (j*2) 1 (by omega)] at c1
   clear hc h ht hl hj
   go_enter Tryz.func149,Tryz.ntmps149
   go_wp2_with fail
   exact bodyPost_ret (v:= .agg #[.int .i64 t.1,.int .i64 t.2]) (by simp[results,Tryz.results149,go_sem]) rfl ⟨by rw[HT.out],qAe _ _⟩
 · have HT:Hid (topB ts k=(8,0)):=by
    show topB ts k=(8,0)
    rw[topB,hl,if_neg hkn]
   have hk3:(n:Int)≤(k:Int):=by omega
   have HP:=qAU (fun w=>qAp 8 w)
   clear h hl
   go_enter Tryz.func149,Tryz.ntmps149
   go_wp2_with (first
    |(go_at_call 145
      refine(HP.out _).mono ?_
      rintro e w1 ⟨rfl,hb1⟩
      have HB:=qAU hb1
      obtain⟨hc1,hf1⟩:=qBZ hb1
      have hs1:w.heap.size<w1.heap.size:=zT
      clear hb1))
   exact bodyPost_ret (v:= .agg #[.int .i64 8,.int .i64 0]) (by simp[results,Tryz.results149,go_sem,hc1,hs1]) rfl ⟨by rw[HT.out],qAu ((qAe _ _).trans (HB.out.mono (by simp))) (qAZ _)⟩
def hasB (n:Nat) (k:Int):Bool:=decide (0≤k) && decide (k<(n:Int))
theorem qGF (A:Option Addr) (n c:Nat) (k:Int) (w:World):Calls Tryz.prog 159 #[.slice A n c,.int .i64 k] w fun e w'=>e= .returned (.bool (hasB n k))∧w'=w:=by
 unfold hasB
 by_cases h0:0≤k
 · go_enter Tryz.func159,Tryz.ntmps159
   go_wp2_with fail
   go_ret
   exact⟨by simp[h0],rfl⟩
 · go_enter Tryz.func159,Tryz.ntmps159
   go_wp2_with fail
   go_ret
   exact⟨by simp[h0];omega,rfl⟩
theorem qEH (A:Option Addr) (n c:Nat) (k:Int) (w:World):Calls Tryz.prog 115 #[.slice A n c,.int .i64 k] w fun e w'=>e= .returned (.bool (hasB n k))∧w'=w:=by
 unfold hasB
 by_cases h0:0≤k
 · go_enter Tryz.func115,Tryz.ntmps115
   go_wp2_with fail
   go_ret
   exact⟨by simp[h0],rfl⟩
 · go_enter Tryz.func115,Tryz.ntmps115
   go_wp2_with fail
   go_ret
   exact⟨by simp[h0];omega,rfl⟩
theorem qGG (A:Option Addr) (n c:Nat) (k:Int) (w:World):Calls Tryz.prog 116 #[.slice A n c,.int .i64 k] w fun e w'=>e= .returned (.bool (hasB n k))∧w'=w:=by
 unfold hasB
 by_cases h0:0≤k
 · go_enter Tryz.func116,Tryz.ntmps116
   go_wp2_with fail
   go_ret
   exact⟨by simp[h0],rfl⟩
 · go_enter Tryz.func116,Tryz.ntmps116
   go_wp2_with fail
   go_ret
   exact⟨by simp[h0];omega,rfl⟩
theorem kref (k n:Int) (w:World):Calls Tryz.prog 153 #[.agg #[.int .i64 k,.int .i64 n]] w fun e w'=>e= .returned (.bool (refB k))∧Below w.heap.size w w':=by
 by_cases h2:k=2
 · subst h2
   exact jq
 by_cases h3:k=3
 · subst h3
   exact jq
 by_cases h4:k=4
 · subst h4
   exact jq
 by_cases h6:k=6
 · subst h6
   exact jq
 by_cases h7:k=7
 · subst h7
   exact jq
 have e:refB k=false:=by simp[refB,h2,h3,h4,h6,h7]
 rw[e]
 clear e
 go_enter Tryz.func153,Tryz.ntmps153
 go_wp2_with fail
 go_ret
 exact⟨rfl,(qAb _ _).alloc (qAZ _) _⟩
theorem ksub (a b c d:Int) (w:World):Calls Tryz.prog 122 #[.agg #[.int .i64 a,.int .i64 b],.agg #[.int .i64 c,.int .i64 d]] w fun e w'=>e= .returned (.bool (subB a b c d))∧Below w.heap.size w w':=by
 have A0:=qAU (fun w=>kref a b w)
 have C0:=qAU (fun w=>kref c d w)
 by_cases h8:c=8
 · subst h8
   rw[show subB a b 8 d=true by simp[subB]]
   go_enter Tryz.func122,Tryz.ntmps122
   go_wp2_with fail
   all_goals(go_ret;exact⟨rfl,((qAb _ _).alloc (qAZ _) _).alloc (by simp) _⟩)
 have e8:(c==8)=false:=by simpa using h8
 by_cases hac:a=c
 · subst hac
   by_cases hbd:b=d
   · subst hbd
     rw[show subB a b a b=true by simp[subB]]
     go_enter Tryz.func122,Tryz.ntmps122
     go_wp2_with fail
     exact jl
   have hne:(b==d)=false:=by simpa using hbd
   cases hra:refB a
   · rw[show subB a b a d=false by simp[subB,hra,hne,e8]]
     exact jB
   cases hrc:refB a
   · rw[show subB a b a d=false by simp[subB,hrc,hne,e8]]
     replace A0:=qAU qz
     replace C0:=qAU zG
     clear hra hrc
     exact qO
   by_cases h6:a=6
   · rw[show subB a b a d=true by simp only[subB,hra,hrc];simp[h6]]
     replace A0:=qAU qz
     replace C0:=qAU zG
     clear hra hrc
     have e6:(a==6)=true:=by simpa using h6
     clear h6
     exact qO
   rw[show subB a b a d=(a==7) by simp[subB,hra,hrc,h6,hne,e8]]
   replace A0:=qAU qz
   replace C0:=qAU zG
   clear hra hrc
   have e6:(a==6)=false:=by simpa using h6
   clear h6
   exact qO
 have hne:(a==c)=false:=by simpa using hac
 cases hra:refB a
 · rw[show subB a b c d=false by simp[subB,hra,hne,e8]]
   exact jB
 cases hrc:refB c
 · rw[show subB a b c d=false by simp[subB,hrc,hne,e8]]
   replace A0:=qAU qz
   replace C0:=qAU zG
   clear hra hrc
   exact qO
 by_cases h6:a=6
 · rw[show subB a b c d=true by simp only[subB,hra,hrc];simp[h6]]
   replace A0:=qAU qz
   replace C0:=qAU zG
   clear hra hrc
   have e6:(a==6)=true:=by simpa using h6
   clear h6
   exact qO
 rw[show subB a b c d=(c==7) by simp[subB,hra,hrc,h6,hne,e8]]
 replace A0:=qAU qz
 replace C0:=qAU zG
 clear hra hrc
 have e6:(a==6)=false:=by simpa using h6
 clear h6
 go_enter Tryz.func122,Tryz.ntmps122
 go_wp2_with (first|(go_at_call 153;with_reducible refine(A0.out _).mono ?_;rintro e w1 ⟨rfl,hb1⟩;obtain⟨hc1,-⟩:=qBZ hb1;have hz1:w.heap.size+1<w1.heap.size:=by {have:=hb1.size;simp at this;omega};have hz0:w.heap.size<w1.heap.size:=by omega)|(go_at_call 153;with_reducible refine(C0.out _).mono ?_;rintro e w2 ⟨rfl,hb2⟩;obtain⟨hc2,-⟩:=qBZ hb2))
 go_ret
 exact⟨rfl,((((qAb _ _).alloc (qAZ _) _).alloc (by simp) _).trans (hb1.mono qg)).trans (hb2.mono (by omega))⟩
theorem qB0 (A B:Option Addr) (n m c d:Nat) (xs ys:List Typ) (w:World) (hl:xs.length=n) (hm:ys.length=m) (h:Sq typL (·<w.heap.size) w A xs) (h':Sq typL (·<w.heap.size) w B ys) (hn2:n≤9223372036854775807) (hm2:m≤9223372036854775807):
 Calls Tryz.prog 121 #[.slice A n c,.slice B m d,.func (.func 122) #[] #[]] w (Tells (belowT xs ys) w):=by
 have HL:=qAU hl
 have HM:=qAU hm
 have HS:=qAU h
 have HT:=qAU h'
 clear hl hm h h'
 by_cases hnm:n=m
 · subst hnm
   go_enter Tryz.func121,Tryz.ntmps121
   go_wp2_with fail
   go_loopw [17] (fun i wr=>∃k:Nat,k≤n∧i= .int .i64 (k:Nat)∧belowT (xs.take k) (ys.take k)=true∧Below w.heap.size w wr) (fun i _=>n-(intOf i).toNat)
   case atStart=>exact⟨0,qAn _,rfl,by simp[belowT],qAb _ _⟩
   case round=>
    obtain⟨k,hk,rfl,heq,hbel⟩:=hrel
    have HE:=qAU heq
    have HB:=qAU hbel
    have hs:=hbel.size
    clear heq hbel
    by_cases hlt:k<n
    · skip
      obtain⟨x,hx⟩:∃x,xs[k]? =some x:=⟨xs[k]'qi,qAY _⟩
      obtain⟨y,hy⟩:∃y,ys[k]? =some y:=⟨ys[k]'jx,qAY _⟩
      obtain⟨a,cs,rfl,hab,hc,hr⟩:=HS.out.at hx
      obtain⟨b,cs2,rfl,hbb,hc2,hr2⟩:=HT.out.at hy
      have HX:=qAU hx
      have HY:=qAU hy
      clear hx hy
      obtain⟨rfl,-,-⟩:=hr
      obtain⟨rfl,-,-⟩:=hr2
      have c0:=(HB.out.cell (p:=a.add (k*2)) qG).trans (hc 0 _ rfl)
      have c1:=(HB.out.cell (p:=a.add (k*2+1)) qG).trans (hc 1 _ rfl)
      rw[qAg a (k*2) 1 (by omega)] at c1
      have k0:=fun ob=>((HB.out.alloc hs ob).cell (p:=b.add (k*2)) qp).trans (hc2 0 _ rfl)
      have k1:=fun ob=>((HB.out.alloc hs ob).cell (p:=b.add (k*2+1)) qp).trans (hc2 1 _ rfl)
      rw[qAg b (k*2) 1 (by omega)] at k1
      have HP:Hid (∀w1,Calls Tryz.prog 122 #[.agg #[.int .i64 x.1,.int .i64 x.2],.agg #[.int .i64 y.1,.int .i64 y.2]] w1 (Tells (subT x y) w1)):=fun w1=>ksub x.1 x.2 y.1 y.2 w1
      clear hc hc2
      cases hg:subT x y
      all_goals
       rw[hg] at HP
       have HG:=qAU hg
       clear hg
       go_wp2_with (first
        |(go_at_call 122
          refine(HP.out _).mono ?_
          rintro e w2 ⟨rfl,hb2⟩
          have Hb2:=qAU (((HB.out.alloc hs _).alloc qg _).trans (hb2.mono qg))
          clear hb2))
      · go_ret
        exact⟨by rw[qEy HX.out HY.out HG.out];rfl,Hb2.out⟩
      · refine⟨⟨k+1,by omega,by simp,qES HE.out HX.out HY.out HG.out,Hb2.out⟩,by simp[intOf];omega⟩
    · obtain rfl:k=n:=by omega
      go_wp2_with fail
      go_ret
      refine⟨?_,HB.out⟩
      have e:=HE.out
      rw[qAi qd,qAi (by rw[HM.out];exact qAZ _)] at e
      rw[e]
      rfl
 · have h1:((n:Int) != (m:Int))=true:=by simp;omega
   have h2:(n != m)=true:=by simpa using hnm
   have HNM:=qAU hnm
   clear hnm
   go_enter Tryz.func121,Tryz.ntmps121
   go_wp2_with fail
   go_ret
   refine⟨?_,qAb _ _⟩
   rw[qEh (fun e=>HNM.out zu)]
   rfl
theorem qJ7 (n:Nat) (w:World) (hn:n≤1000000000):
 Calls Tryz.prog 95 #[.slice none 0 0,.int .i64 (n:Nat)] w fun e w'=>∃v,e= .returned v∧w'.ownsRow w.heap.size 58 2 v 0 (T2 [])∧Below w.heap.size w w':=by
 rcases Nat.eq_zero_or_pos n with h|h
 · subst h
   go_enter Tryz.func95,Tryz.ntmps95
   go_wp2
   exact jV
 · go_enter Tryz.func95,Tryz.ntmps95
   go_wp2_with (at_builtin
                refine qEa _ rfl (.tmp 20) (.tmp 21) rfl n h hn rfl rfl ?_
                intro G w1 hG hG2 hown hb
                have hG3:G≤9223372036854775807:=by unfold maxLen at hG2;omega
                have HO:=qAU hown
                clear hown hG2)
   go_ret
   exact⟨_,rfl,HO.out,hb⟩
theorem qDM (xss:List (List Typ)) (k:Nat):(xss.take k).flatten.length≤xss.flatten.length:=by
 conv=>rhs;rw[←List.take_append_drop k xss,List.flatten_append]
 rw[List.length_append]
 omega
theorem qEN {xss:List (List Typ)} {k:Nat} {x:List Typ} (h:xss[k]? =some x):(xss.take (k+1)).flatten=(xss.take k).flatten++x:=by
 obtain⟨hk,rfl⟩:=qAc.1 h
 rw[qAo hk,List.flatten_append]
 simp
theorem qCc (A:Option Addr) (n c:Nat) (xss:List (List Typ)) (w:World) (hl:xss.length=n) (hR:Sq tysL (·<w.heap.size) w A xss) (hn:xss.flatten.length≤1000000) (hn2:n≤1000000):
 Calls Tryz.prog 68 #[.slice A n c] w fun e w'=>∃v,e= .returned v∧w'.ownsRow w.heap.size 58 2 v xss.flatten.length (T2 xss.flatten)∧Below w.heap.size w w':=by
 have HL:=qAU hl
 have HR:=qAU hR
 clear hl hR
 go_enter Tryz.func68,Tryz.ntmps68
 go_wp2_with fail
 go_loop [3,11] (fun s i=>∃k:Nat,k≤n∧i= .int .i64 (k:Nat)∧s= .int .i64 (((xss.take k).flatten.length:Nat):Int)) (fun _ i=>n-(intOf i).toNat)
 case atStart=>exact⟨0,qAn _,rfl,by simp⟩
 case round=>
  obtain⟨k,hk,rfl,rfl⟩:=hrel
  have hle:=qDM xss k
  obtain⟨m,hm⟩:∃m,(xss.take k).flatten.length=m:=⟨_,rfl⟩
  rw[hm] at hle⊢
  have HM:=qAU hm
  clear hm
  by_cases hlt:k<n
  · obtain⟨x,hx⟩:∃x,xss[k]? =some x:=⟨xss[k]'qi,qAY _⟩
    obtain⟨a,cs,rfl,hab,hc,hr⟩:=HR.out.at hx
    obtain⟨A2,d2,rfl,-,-,-⟩:=hr
    have hcell:=qA9 (K:=tysL.k) rfl (hc 0 _ rfl)
    clear hc
    have HF:=qAU (qEN hx)
    have hle2:=qDM xss (k+1)
    rw[HF.out,List.length_append,HM.out] at hle2
    clear hx
    go_wp2_with fail
    refine⟨⟨k+1,by omega,by simp,?_⟩,by simp[intOf];omega⟩
    rw[HF.out,List.length_append,HM.out]
    simp
  · obtain rfl:k=n:=by omega
    have HE:Hid (m=xss.flatten.length):=by
     show m=xss.flatten.length
     rw[←HM.out,qAi qd]
    go_wp2_with fail
    refine(qJ7 m w (by omega)).mono ?_
    rintro e w1 ⟨v1,rfl,hown1,hb1⟩
    have HO1:=qAU hown1
    have HB1:=qAU hb1
    clear hown1 hb1
    go_wp2_with fail
    go_loopw [6,27] (fun s i wr=>∃j:Nat,j≤k∧i= .int .i64 (j:Nat)∧wr.ownsRow w.heap.size 58 2 s (xss.take j).flatten.length (T2 (xss.take j).flatten)∧Below w.heap.size w wr) (fun _ i _=>k-(intOf i).toNat)
    case atStart=>exact⟨0,qAn _,rfl,by simpa using HO1.out,HB1.out⟩
    case round=>
     obtain⟨j,hj,rfl,hown,hbel⟩:=hrel
     have HO:=qAU hown
     have HB:=qAU hbel
     have hs:=hbel.size
     clear hown hbel
     have hlej:=qDM xss j
     by_cases hlt2:j<k
     · obtain⟨x,hx⟩:∃x,xss[j]? =some x:=⟨xss[j]'(by rw[HL.out];exact hlt2),qAY _⟩
       obtain⟨a,cs,rfl,hab,hc,hr⟩:=HR.out.at hx
       obtain⟨A2,d2,rfl,-,-,hsq⟩:=hr
       have hcell2:=(HB.out.cell (p:=a.add j) qG).trans (qA9 (K:=tysL.k) rfl (hc 0 _ rfl))
       clear hc
       have HF:=qAU (qEN hx)
       have hle2:=qDM xss (j+1)
       rw[HF.out,List.length_append] at hle2
       have HY:=qAU hsq
       clear hx hsq
       obtain⟨q,hq⟩:∃q,(xss.take j).flatten=q:=⟨_,rfl⟩
       have HQ:=qAU hq
       have HO2:Hid (wr.ownsRow w.heap.size 58 2 u6 q.length (T2 q)):=by
        show wr.ownsRow w.heap.size 58 2 u6 q.length (T2 q)
        rw[←hq];exact HO.out
       rw[hq] at hle2 hlej
       clear hq HO
       go_wp2_with (at_builtin
                    refine qBP _ rfl (.tmp 31) (.tmp 32) rfl w.heap.size u6 q.length q rfl HO2.out A2 x.length d2 x rfl rfl (·<w.heap.size) (HY.out.below HB.out (qAZ _)) (by omega) hs ?_
                    intro v2 w2 hown2 hg2 _
                    have HO3:=qAU hown2
                    clear hown2)
       refine⟨⟨j+1,by omega,by simp,?_,HB.out.grown hg2 hs (fun i hi=>(HO2.out.lt i hi).1)⟩,by simp[intOf];omega⟩
       rw[HF.out,HQ.out,List.length_append]
       exact HO3.out
     · obtain rfl:j=k:=by omega
       go_wp2_with fail
       go_ret
       refine⟨_,rfl,?_,HB.out⟩
       have:=HO.out
       rw[qAi qd] at this
       exact this
def Moved (r:Option (List Typ)) (w:World) (e:Ending) (w':World):Prop:=
 Below w.heap.size w w'∧((r=none∧e= .returned (.tuple #[.slice none 0 0,.bool false]))∨∃t v,r=some t∧e= .returned (.tuple #[v,.bool true])∧w'.ownsRow w.heap.size 58 2 v t.length (T2 t))
theorem qCQ {s ins outs:List Typ} (h:s.length<ins.length):movB s ins outs=none:=by
 rw[movB,if_neg]
 omega
theorem qCo {s ins outs:List Typ} {b:Nat} (hb:s.length-ins.length=b) (h:belowT (s.drop b) ins=false):movB s ins outs=none:=by
 rw[movB,if_neg]
 rw[hb,h]
 simp
theorem qCz {s ins outs:List Typ} {b:Nat} (hb:s.length-ins.length=b) (h:8<b+outs.length):movB s ins outs=none:=by
 rw[movB,if_neg]
 omega
theorem qCn {s ins outs:List Typ} {b:Nat} (hb:s.length-ins.length=b) (hl:ins.length≤s.length) (h:belowT (s.drop b) ins=true) (h8:b+outs.length≤8):movB s ins outs=some (s.take b++outs):=by
 rw[movB,hb,if_pos ⟨hl,h8,h⟩]
theorem qHR {S:Nat→Prop} {w:World} {D:Option Addr} {ts:List Typ} {b:Nat} (h:Sq typL S w D ts) (D':Option Addr) (h':b<ts.length→D'=D.map (·.add (b*2))):Sq typL S w D' (ts.drop b):=fun hn=>by
 have hl:(ts.drop b).length=ts.length-b:=by simp
 rw[h' (by omega)]
 exact h.drop b hn
theorem qE8 {s r:List Typ} {x:Typ} (h:s.reverse=x::r):topB s 0=x:=by
 have e:s=r.reverse++[x]:=by rw[←List.reverse_reverse s,h];simp
 subst e
 simp[topB]
theorem topB_1 {s r:List Typ} {x y:Typ} (h:s.reverse=x::y::r):topB s 1=y:=by
 have e:s=r.reverse++[y,x]:=by rw[←List.reverse_reverse s,h];simp
 subst e
 simp[topB]
def chgB (m:Mod) (f:Fn) (i:Ins) (s:List Typ):List Typ×List Typ:=
 if i.1=6 then ([topB s 0],[topB s 0,topB s 0])
 else if i.1=7 then ([topB s 1,topB s 0],[topB s 0,topB s 1])
 else if i.1=41 then ([(5,(topB s 0).2)],[])
 else (ruleB m f i s).getD ([],[])
theorem qJw {α:Type} {c:Prop} [Decidable c] {a b:Option α} (ha:∃p,a=some p) (hb:∃p,b=some p):∃p,(if c then a else b)=some p:=by
 split
 · exact ha
 · exact hb
theorem qHl {m:Mod} {f:Fn} {i:Ins} {s:List Typ} (h0:0≤i.2.1) (hn:namedB m f i=true) (h6:i.1≠6) (h7:i.1≠7) (h41:i.1≠41):∃p,ruleB m f i s=some p:=by
 by_cases h25:i.1=25
 · simp[namedB,h25] at hn
   have hj:i.2.1.toNat<m.funcs.length:=by omega
   exact⟨(_,_),by simp[ruleB,h25,hj];exact⟨rfl,rfl⟩⟩
 by_cases h27:i.1=27
 · simp[namedB,h27] at hn
   have hj:i.2.1.toNat<m.imps.length:=by omega
   exact⟨(_,_),by simp[ruleB,h27,hj];exact⟨rfl,rfl⟩⟩
 by_cases h28:i.1=28
 · simp[namedB,h28] at hn
   have hj:i.2.1.toNat<m.recs.length:=by omega
   exact⟨(_,_),by simp[ruleB,h28,hj];exact⟨rfl,rfl⟩⟩
 · simp only[ruleB,h6,h7,h41,h25,h27,h28,if_false]
   repeat(first|refine qJw ⟨_,rfl⟩ ?_|exact⟨_,rfl⟩)
theorem qJI {m:Mod} {f:Fn} {i:Ins} {s:List Typ} (h0:0≤i.2.1) (hn:namedB m f i=true):(match ruleB m f i s with|none=>none|some p=>movB s p.1 p.2)=movB s (chgB m f i s).1 (chgB m f i s).2:=by
 by_cases h6:i.1=6
 · cases hs:s.reverse with
   |nil=>
    obtain rfl:s=[]:=by simpa using hs
    rw[qCQ (by simp[chgB,h6])]
    simp[ruleB,h6]
   |cons x r=>simp[ruleB,chgB,h6,hs,qE8 hs]
 by_cases h7:i.1=7
 · cases hs:s.reverse with
   |nil=>
    obtain rfl:s=[]:=by simpa using hs
    rw[qCQ (by simp[chgB,h7])]
    simp[ruleB,h7]
   |cons x r=>
    cases r with
    |nil=>
     have hl:s.length=1:=by rw[←List.length_reverse,hs];rfl
     rw[qCQ (by simp[chgB,h7,hl])]
     simp[ruleB,h7,hs]
    |cons y r=>simp[ruleB,chgB,h7,hs,qE8 hs,topB_1 hs]
 by_cases h41:i.1=41
 · cases hs:s.reverse with
   |nil=>
    obtain rfl:s=[]:=by simpa using hs
    rw[qCQ (by simp[chgB,h41])]
    simp[ruleB,h41]
   |cons x r=>
    have e:s=r.reverse++[x]:=by rw[←List.reverse_reverse s,hs];simp
    by_cases h5:x.1=5
    · have ex:(5,x.2)=x:=Prod.ext h5.symm rfl
      simp[ruleB,chgB,h41,hs,qE8 hs,h5,ex]
    · have hb:belowT (s.drop (s.length-1)) [(5,x.2)]=false:=by
       subst e
       simp[belowT,subT,subB,refB,h5]
      rw[qCo (b:=s.length-1) (by simp[chgB,h41]) (by simpa[chgB,h41,qE8 hs] using hb)]
      simp[ruleB,h41,hs,h5]
 · obtain⟨p,hp⟩:=qHl (s:=s) h0 hn h6 h7 h41
   simp[chgB,h6,h7,h41,hp]
theorem ins_chg {m:Mod} {f:Fn} {i:Ins} {pc:Nat} {s:List Typ} (h0:0≤i.2.1) (hn:namedB m f i=true):
 insB8 m f i pc s=(match movB s (chgB m f i s).1 (chgB m f i s).2 with|none=>(4,[],[])|some t=>match nextB f i pc with|none=>(1,[],[])|some l=>(0,t,l)):=by
 rw[←qJI h0 hn,insB8]
 cases ruleB m f i s with
 |none=>rfl
 |some p=>rfl
end Go.Proofs.YtconajaecpgjgaaGreat
