/-
Vs Gbs Gp Gq Msp Mu Mv Mw Mx My Fx Fy Ad Mz
-/
import Derived.Test.YtgdbhanhmenmfaaGreatQ02
import Derived.Test.YtgdbhanhmenmfaaGreatQ04
import Derived.Test.YtgdbhanhmenmfaaGreatQ05
import Derived.Test.YtgdbhanhmenmfaaGreatQ10
import Derived.Deep.RegionHeld3
import Derived.Laws.CopyOwn
import Derived.Lib.ConvBytes
import Ieee.Arith
import Derived.Laws.ComplexArith
set_option linter.unusedSimpArgs false
set_option linter.unusedVariables false
namespace Go.Proofs.YtgdbhanhmenmfaaGreat
open Go.RowKit
variable {K:Mch}{S:Nat→Prop}{a:Nat}{f:Frm}{fn:Fn}{i:Ins}{j k:Nat}{m:Mod}{p:Nat}{pc:Int}{s:Stt}{t:Typ}{ts u:List Typ}{v:Nat}{w w' w1:World}{α:Type}{x:α}{xs:List α}{β:Type}{y:β}{ys:List β}
theorem qR {P:Prop} (h:P:=by kernel_rfl):P:=h
abbrev Shape:=Bool×List Typ
def shO (x:Shape):Option (List Typ):=if x.1 then some x.2 else none
def toS (l:List Shape):Shp:=fun p=>(l[p]?).bind shO
theorem qBx {l:List Shape} {s:List Typ} (h:l[p]? =some (true,s)):toS l p=some s:=by simp[toS,h,shO]
theorem qEK {l:List Shape} {s:List Typ} (h:l[p]? =some (false,s)):toS l p=none:=by simp[toS,h,shO]
theorem qDJ {l:List Shape} {s:List Typ} (h:toS l p=some s):l[p]? =some (true,s):=by
 unfold toS at h
 cases e:l[p]? with
 |none=>rw[e] at h;cases h
 |some x=>
  obtain⟨b,u⟩:=x;rw[e] at h
  cases b
  · simp[shO] at h
  · simp[shO] at h;subst h;rfl
theorem qCc {l:List Shape} {s:List Typ} (hp:p<l.length):toS (l.set p (true,s))=putS (toS l) p s:=by
 funext q
 unfold toS putS;rw[List.getElem?_set]
 by_cases e:p=q
 · subst e
   simp[hp,shO]
 · rw[if_neg e,if_neg (fun h=>e h.symm)]
structure Least (m:Mod) (fn:Fn) (l:List Shape):Prop where
 len:l.length=fn.code.length
 out:∀(p:Nat) (s:List Typ),l[p]? =some (false,s)→s=[]
 run:Run m fn (toS l)
 ok:∀p,p<fn.code.length→okAt m fn (toS l) p
theorem Least.right {l:List Shape} (h:Least m fn l):RightF m fn (toS l):=⟨h.run.zero,h.ok⟩
theorem Least.same {l l':List Shape} (h:Least m fn l) (h':Least m fn l'):l=l':=by
 have hs:=qM0 h.run h'.run h.right h'.right
 apply List.ext_getElem?
 intro p;have hp:=hs p
 by_cases hlt:p<l.length
 · have hlt':p<l'.length:=by rw[h'.len,←h.len];exact hlt
   obtain⟨⟨b,s⟩,e⟩:∃x,l[p]? =some x:=⟨_,List.getElem?_eq_getElem hlt⟩;obtain⟨⟨b',s'⟩,e'⟩:∃x,l'[p]? =some x:=⟨_,List.getElem?_eq_getElem hlt'⟩;rw[e,e']
   cases b<;>cases b'
   · rw[h.out p s e,h'.out p s' e']
   · rw[qEK e,qBx e'] at hp;cases hp
   · rw[qBx e,qEK e'] at hp;cases hp
   · rw[qBx e,qBx e'] at hp;injection hp with hp;rw[hp]
 · rw[List.getElem?_eq_none (by omega),List.getElem?_eq_none (by rw[h'.len,←h.len];omega)]
def Never (m:Mod) (fn:Fn):Prop:=¬∃R,RightF m fn R
structure LeastM (m:Mod) (L:List (List Shape)):Prop where
 len:L.length=m.funcs.length
 at_:∀(j:Nat) (fn:Fn) (l:List Shape),m.funcs[j]? =some fn→L[j]? =some l→Least m fn l
def NeverM (m:Mod):Prop:=∃fn∈m.funcs,Never m fn
theorem LeastM.get {L:List (List Shape)} (h:LeastM m L) (hf:m.funcs[j]? =some fn):∃l,L[j]? =some l∧Least m fn l:=by
 have hj:=(qBM.1 hf).1;have e:L[j]? =some (L[j]'(by rw[h.len];exact hj)):=List.getElem?_eq_getElem _;exact⟨_,e,h.at_ j fn _ hf e⟩
theorem LeastM.same {L L':List (List Shape)} (h:LeastM m L) (h':LeastM m L'):L=L':=by
 apply List.ext_getElem?
 intro j
 by_cases hj:j<m.funcs.length
 · have hf:m.funcs[j]? =some m.funcs[j]:=List.getElem?_eq_getElem hj
   obtain⟨l,e,k⟩:=h.get hf;obtain⟨l',e',k'⟩:=h'.get hf;rw[e,e',k.same k']
 · rw[List.getElem?_eq_none (by rw[h.len];omega),List.getElem?_eq_none (by rw[h'.len];omega)]
structure RightM (m:Mod) (L:List (List Shape)):Prop where
 len:L.length=m.funcs.length
 at_:∀(j:Nat) (fn:Fn) (l:List Shape),m.funcs[j]? =some fn→L[j]? =some l→l.length=fn.code.length∧(∀x∈l,x.2.length≤8)∧RightF m fn (toS l)
theorem RightM.get {L:List (List Shape)} (h:RightM m L) (hf:m.funcs[j]? =some fn):∃l,L[j]? =some l∧l.length=fn.code.length∧(∀x∈l,x.2.length≤8)∧RightF m fn (toS l):=by
 have hj:=(qBM.1 hf).1;have e:L[j]? =some (L[j]'(by rw[h.len];exact hj)):=List.getElem?_eq_getElem _;exact⟨_,e,h.at_ j fn _ hf e⟩
theorem RightM.never {L:List (List Shape)} (h:RightM m L):¬NeverM m:=by
 rintro⟨fn,hfn,hn⟩;obtain⟨j,hj⟩:=qBk.1 hfn;obtain⟨l,-,-,-,hr⟩:=h.get hj;exact hn ⟨_,hr⟩
theorem Least.short {l:List Shape} (h:Least m fn l):∀x∈l,x.2.length≤8:=by
 rintro⟨b,s⟩ hx;obtain⟨p,hp⟩:=qBk.1 hx
 cases b
 · rw[h.out p s hp];simp
 · exact(h.run.can p s (qBx hp)).2
theorem LeastM.right {L:List (List Shape)} (h:LeastM m L):RightM m L:=
 ⟨h.len,fun j fn l hf hl=>⟨(h.at_ j fn l hf hl).len,(h.at_ j fn l hf hl).short,(h.at_ j fn l hf hl).right⟩⟩
theorem LeastM.least {L R:List (List Shape)} (h:LeastM m L) (h':RightM m R) {l:List Shape} {s:List Typ} (hl:L[j]? =some l) (hp:l[p]? =some (true,s)):∃r t,R[j]? =some r∧r[p]? =some (true,t)∧belowT s t=true:=by
 have hj:j<m.funcs.length:=by rw[←h.len];exact(qBM.1 hl).1
 have hf:m.funcs[j]? =some m.funcs[j]:=List.getElem?_eq_getElem hj;obtain⟨r,hr,-,-,hR⟩:=h'.get hf;obtain⟨t,ht,hb⟩:=(h.at_ j _ l hf hl).run.least _ hR p s (qBx hp);exact⟨r,t,hr,qDJ ht,hb⟩
def putF (t:List Typ):List Int→List Shape→Option (List Shape)
 |[],l=>some l
 |k::ks,l=>
  match l[k.toNat]? with
  |none=>none
  |some (false,_)=>putF t ks (l.set k.toNat (true,t))
  |some (true,u)=>if u.length=t.length then putF t ks (l.set k.toNat (true,joinL u t)) else none
def stepF (m:Mod) (fn:Fn) (l:List Shape) (p:Nat):Option (List Shape):=
 match l[p]?,fn.code[p]? with
 |some (true,s),some i=>if (insB8 m fn i p s).1=0 then putF (insB8 m fn i p s).2.1 (insB8 m fn i p s).2.2 l else none
 |_,_=>some l
def stepsF (m:Mod) (fn:Fn):List Nat→List Shape→Option (List Shape)
 |[],l=>some l
 |p::ps,l=>(stepF m fn l p).bind (stepsF m fn ps)
def okF (m:Mod) (fn:Fn) (l:List Shape) (p:Nat):Bool:=
 match l[p]?,fn.code[p]? with
 |some (true,s),some i=>(insB8 m fn i p s).1==0 && (insB8 m fn i p s).2.2.all fun k=>match l[k.toNat]? with
  |some (true,u)=>belowT (insB8 m fn i p s).2.1 u
  |_=>false
 |some (true,_),none=>false
 |_,_=>true
def outF (x:Shape):Bool:=x.1 || x.2.isEmpty
structure RunF (m:Mod) (fn:Fn) (l:List Shape):Prop where
 len:l.length=fn.code.length
 run:Run m fn (toS l)
theorem qNB {s t:List Typ} {ks:List Int} (hi:fn.code[p]? =some i) (hu:Und m fn p s) (hf:insB8 m fn i p s=(0,t,ks)) (hc:canL t) (h8:t.length≤8):
 ∀(js:List Int) (l:List Shape),RunF m fn l→(∀j∈js,j∈ks∧0≤j∧j.toNat<fn.code.length)→(∀l',putF t js l=some l'→RunF m fn l')∧(putF t js l=none→Never m fn):=by
 intro js
 induction js with
 |nil=>
  intro l h _;refine⟨fun l' e=> ?_,fun e=>(by simp[putF] at e)⟩;simp only[putF,Option.some.injEq] at e;subst e;exact h
 |cons j js ih=>
  intro l h hj;obtain⟨hm,h0,hlt⟩:=hj j (by simp);have hm':((j.toNat:Nat):Int)∈ks:=by rw[Int.toNat_of_nonneg h0];exact hm
  have hlt':j.toNat<l.length:=by rw[h.len];exact hlt
  obtain⟨⟨b,u⟩,e⟩:∃x,l[j.toNat]? =some x:=⟨_,List.getElem?_eq_getElem hlt'⟩;have hr:=fun a ha=>hj a (List.mem_cons_of_mem _ ha);simp only[putF,e]
  cases b
  · simp only
    refine ih _ ⟨by simpa using h.len,?_⟩ hr;rw[qCc hlt'];exact qKp h.run hu hi hf hm' (qEK e) hc h8 hlt
  · simp only
    by_cases hn:u.length=t.length
    · rw[if_pos hn]
      refine ih _ ⟨by simpa using h.len,?_⟩ hr;rw[qCc hlt'];exact qIA h.run hu hi hf hm' (qBx e) hn hc
    · rw[if_neg hn]
      exact⟨fun l' e=>(by cases e),fun _=>qE6 h.run hu hi hf hm' (qBx e) hn⟩
theorem qLP (hc:checkN m=0) (hf:fn∈m.funcs) {l:List Shape} (h:RunF m fn l) (p:Nat):(∀l',stepF m fn l p=some l'→RunF m fn l')∧(stepF m fn l p=none→Never m fn):=by
 unfold stepF;split
 · rename_i s i hs hi
   have hu:=h.run.und (qBx hs)
   by_cases he:(insB8 m fn i p s).1=0
   · rw[if_pos he]
     have hfl:insB8 m fn i p s=(0,(insB8 m fn i p s).2.1,(insB8 m fn i p s).2.2):=Prod.ext he rfl;obtain⟨h1,h2⟩:=qI3 hc hf (h.run.can p s (qBx hs)).1 hfl;have h3:=qER hc hf hi hfl;exact qNB hi hu hfl h1 h2 _ _ h fun j hj=>⟨hj,h3 j hj⟩
   · rw[if_neg he]
     exact⟨fun l' e=>(by cases e),fun _=>qGa hu hi he⟩
 · exact⟨fun l' e=>(by injection e with e;subst e;exact h),fun e=>(by cases e)⟩
theorem qJb (hc:checkN m=0) (hf:fn∈m.funcs):∀(ps:List Nat) (l:List Shape),RunF m fn l→(∀l',stepsF m fn ps l=some l'→RunF m fn l')∧(stepsF m fn ps l=none→Never m fn):=by
 intro ps
 induction ps with
 |nil=>intro l h;exact⟨fun l' e=>(by simp only[stepsF,Option.some.injEq] at e;subst e;exact h),fun e=>(by simp[stepsF] at e)⟩
 |cons p ps ih=>
  intro l h;obtain⟨h1,h2⟩:=qLP hc hf h p;simp only[stepsF]
  cases e:stepF m fn l p with
  |none=>exact⟨fun l' e'=>(by simp at e'),fun _=>h2 e⟩
  |some l2=>simpa using ih l2 (h1 l2 e)
def beginF (n:Nat):List Shape:=(List.replicate n (false,[])).set 0 (true,[])
theorem qGD (h:0<fn.code.length):RunF m fn (beginF fn.code.length):=by
 refine⟨by simp[beginF],?_⟩;have e:toS (beginF fn.code.length)=S0:=by
  unfold beginF;rw[qCc qy]
  funext p
  unfold putS S0
  by_cases e:p=0
  · rw[if_pos e,if_pos e]
  · rw[if_neg e,if_neg e]
    unfold toS;rw[List.getElem?_replicate];split<;>simp[shO]
 rw[e];exact qLR h
theorem qNM {l:List Shape} (h:okF m fn l p=true):okAt m fn (toS l) p:=by
 intro s hs;have hs:=qDJ hs;unfold okF at h;rw[hs] at h
 cases hi:fn.code[p]? with
 |none=>rw[hi] at h;simp at h
 |some i=>
  rw[hi] at h;simp only[Bool.and_eq_true,beq_iff_eq,List.all_eq_true] at h;refine⟨i,_,_,rfl,Prod.ext h.1 rfl,fun k hk z hz=> ?_⟩;injection hz with hz;subst hz;have:=h.2 k hk;split at this
  · rename_i u hu
    exact⟨u,qBx hu,this⟩
  · cases this
theorem reckon_least (hc:checkN m=0) (hf:fn∈m.funcs) (hp:0<fn.code.length) (ps:List Nat) (l:List Shape) (h:stepsF m fn ps (beginF fn.code.length)=some l) (hk:(List.range fn.code.length).all (okF m fn l)=true) (ho:l.all outF=true):Least m fn l:=by
 have hr:=(qJb hc hf ps _ (qGD hp)).1 l h;refine⟨hr.len,fun p s hs=> ?_,hr.run,fun p hp=>qNM (List.all_eq_true.1 hk p (List.mem_range.2 hp))⟩;have:=List.all_eq_true.1 ho _ (qBQ hs);simpa[outF] using this
def beginS (n:Nat) (q:Int):Stt:=⟨[⟨0,0,List.replicate n 0,[]⟩],[],[],q,0,0,0⟩
def all2 {α β:Type} (f:α→β→Bool):List α→List β→Bool
 |[],[]=>true
 |a::xs,b::ys=>f a b && all2 f xs ys
 |_,_=>false
theorem qJG {f:α→β→Bool} (h:all2 f xs ys=true):xs.length=ys.length:=by
 induction xs generalizing ys with
 |nil=>cases ys<;>simp[all2] at h⊢
 |cons x xs ih=>
  cases ys with
  |nil=>simp[all2] at h
  |cons y ys=>simp only[all2,Bool.and_eq_true] at h;simp[ih h.2]
theorem all2_ne {f:α→β→Bool} (h:xs.length≠ys.length):all2 f xs ys=false:=by
 cases e:all2 f xs ys
 · rfl
 · exact absurd (qJG e) h
theorem all2_no {f:α→β→Bool} (hx:xs[k]? =some x) (hy:ys[k]? =some y) (h:f x y=false):all2 f xs ys=false:=by
 induction xs generalizing ys k with
 |nil=>simp at hx
 |cons a xs ih=>
  cases ys with
  |nil=>simp at hy
  |cons b ys=>
   cases k with
   |zero=>
    simp at hx hy;subst hx hy;simp[all2,h]
   |succ k=>
    simp only[all2,ih (by simpa using hx) (by simpa using hy),Bool.and_false]
theorem qOq {f:α→β→Bool} (h:all2 f xs ys=true) (hf:f x y=true):all2 f (xs++[x]) (ys++[y])=true:=by
 induction xs generalizing ys with
 |nil=>cases ys<;>simp[all2,hf] at h⊢
 |cons a xs ih=>
  cases ys with
  |nil=>simp[all2] at h
  |cons b ys=>
   simp only[all2,Bool.and_eq_true,List.cons_append] at h⊢;exact⟨h.1,ih h.2⟩
theorem qMa {f:α→β→Bool} (h:all2 f (xs.take k) (ys.take k)=true) (hx:xs[k]? =some x) (hy:ys[k]? =some y) (hf:f x y=true):all2 f (xs.take (k+1)) (ys.take (k+1))=true:=by
 obtain⟨h1,rfl⟩:=qBM.1 hx;obtain⟨h2,rfl⟩:=qBM.1 hy;rw[qBW h1,qBW h2];exact qOq h hf
theorem qMb {f:α→β→Bool} {n:Nat} (h:all2 f (xs.take n) (ys.take n)=true) (hx:xs.length=n) (hy:ys.length=n):all2 f xs ys=true:=by
 rwa [qBS (by omega),qBS (by omega)] at h
def hasT (s:Stt) (v:Nat) (t:Typ):Bool:=
 if t.1=1∨t.1=8 then true
 else if t.1=5 then (match s.hn[v]? with|some h=>decide (h.kind=t.2)|none=>false)
 else if v=0 then true
 else if t.1=6 then false
 else match s.hp[v-1]? with
  |some o=>decide (t.1=7∨(t.1=o.kind∧t.2=o.n))
  |none=>false
theorem qIv (h:t.1=1∨t.1=8):hasT s v t=true:=by simp[hasT,h]
theorem qOD {x:Hnd} (h:t.1=5) (hx:s.hn[v]? =some x):hasT s v t=decide (x.kind=t.2):=by simp[hasT,h,hx]
theorem qIw (h:t.1=5) (hx:s.hn.length≤v):hasT s v t=false:=by simp[hasT,h,List.getElem?_eq_none hx]
theorem qEC (h:t.1≠5):hasT s 0 t=true:=by simp[hasT,h]
theorem qEu (h:t.1=6):hasT s v t=decide (v=0):=by
 by_cases e:v=0
 · simp[hasT,h,e]
 · simp[hasT,h,e]
theorem qIu {o:Ob} (h1:t.1≠1) (h2:t.1≠8) (h3:t.1≠5) (h4:v≠0) (h5:t.1≠6) (ho:s.hp[v-1]? =some o):hasT s v t=decide (t.1=7∨(t.1=o.kind∧t.2=o.n)):=by simp[hasT,h1,h2,h3,h4,h5,ho]
theorem qOC (h1:t.1≠1) (h2:t.1≠8) (h3:t.1≠5) (h4:v≠0) (ho:s.hp.length<v):hasT s v t=false:=by
 have:s.hp[v-1]? =none:=List.getElem?_eq_none (by omega);simp[hasT,h1,h2,h3,h4,this]
def allB (s:Stt) (l:List Nat) (ts:List Typ):Bool:=all2 (hasT s) l ts
def handB (h:Hnd):Bool:=decide (0≤h.kind∧h.kind≤3)
def objB (m:Mod) (s:Stt) (o:Ob):Bool:=
 if o.kind=2 then decide (o.n=0∧o.words.length=0∧o.bytes.length≤64)
 else if o.kind=3 then decide (o.n=0∧o.words.length≤64∧o.bytes.length=0)
 else if o.kind=4 then (if o.n<0 then false else match m.recs[o.n.toNat]? with
  |some r=>decide (o.bytes.length=0) && allB s o.words r
  |none=>false)
 else false
def atB (L:List (List Shape)) (f pc:Int):Option (List Typ):=
 if f<0∨pc<0 then none
 else match L[f.toNat]? with
  |none=>none
  |some l=>match l[pc.toNat]? with
   |some (true,s)=>some s
   |_=>none
theorem qLG {L:List (List Shape)} {f:Int} (h:f<0∨pc<0):atB L f pc=none:=by simp[atB,h]
theorem atB_out {L:List (List Shape)} {f:Int} (h:L.length≤f.toNat):atB L f pc=none:=by
 unfold atB;rw[List.getElem?_eq_none h];split<;>rfl
theorem qLF {L:List (List Shape)} {f pc:Nat} {l:List Shape} (h:L[f]? =some l):atB L (f:Int) (pc:Int)=(match l[pc]? with|some (true,s)=>some s|_=>none):=by
 unfold atB;rw[if_neg (by omega)];simp[h]
theorem qGE {L:List (List Shape)} {f pc:Nat} {l:List Shape} {b:Bool} {s:List Typ} (h:L[f]? =some l) (h':l[pc]? =some (b,s)):atB L (f:Int) (pc:Int)=if b then some s else none:=by
 rw[qLF h,h']
 cases b<;>rfl
theorem qOk {L:List (List Shape)} {f pc:Nat} {l:List Shape} (h:L[f]? =some l) (h':l.length≤pc):atB L (f:Int) (pc:Int)=none:=by
 rw[qLF h,List.getElem?_eq_none h']
def belowB (m:Mod) (L:List (List Shape)) (f pc g:Int):Option (List Typ):=
 match atB L f (pc-1) with
 |none=>none
 |some u=>match m.funcs[f.toNat]? with
  |none=>none
  |some fn=>match fn.code[(pc-1).toNat]? with
   |none=>none
   |some i=>if i.1=25∧i.2.1=g then (match m.funcs[g.toNat]? with|none=>none|some h=>some (u.take (u.length-h.args.length))) else none
def stackB (m:Mod) (L:List (List Shape)) (s:Stt) (k:Nat):Option (List Typ):=
 match s.fr[k]? with
 |none=>none
 |some f=>match atB L f.fn f.pc with
  |none=>none
  |some u=>match s.fr[k+1]? with
   |none=>some u
   |some g=>belowB m L f.fn f.pc g.fn
def frameB (m:Mod) (L:List (List Shape)) (s:Stt) (k:Nat):Bool:=
 match s.fr[k]? with
 |none=>true
 |some f=>match stackB m L s k with
  |none=>false
  |some ts=>allB s f.stk ts && (match m.funcs[f.fn.toNat]? with
   |none=>false
   |some fn=>allB s f.locs (fn.args++fn.locs))
def countB (s:Stt):Bool:=decide (0≤s.quota∧s.quota≤65536∧0≤s.used∧s.used≤s.quota∧0≤s.fin∧s.fin≤7∧s.fr.length≤8∧s.hp.length≤4096∧s.hn.length≤16)
def endB (m:Mod) (L:List (List Shape)) (s:Stt):Bool:=
 if s.fin≠0 then decide (s.fr.length=0∧s.hp.length=0∧(s.val=0∨s.fin=1))
 else decide (s.val=0) && (match s.fr with|[]=>false|f::_=>decide (f.fn=0)) && (List.range s.fr.length).all (frameB m L s)
def typedB (m:Mod) (L:List (List Shape)) (s:Stt):Bool:=countB s && s.hn.all handB && s.hp.all (objB m s) && endB m L s
theorem qHG {L:List (List Shape)} (h:countB s=false):typedB m L s=false:=by simp[typedB,h]
theorem qH0 {L:List (List Shape)} (h:s.hn.all handB=false):typedB m L s=false:=by simp[typedB,h]
theorem qJU {L:List (List Shape)} (h:s.hp.all (objB m s)=false):typedB m L s=false:=by simp[typedB,h]
theorem qFV {L:List (List Shape)} (h1:countB s=true) (h2:s.hn.all handB=true) (h3:s.hp.all (objB m s)=true):typedB m L s=endB m L s:=by simp[typedB,h1,h2,h3]
theorem qOY {L:List (List Shape)} (h:s.fin≠0):endB m L s=decide (s.fr.length=0∧s.hp.length=0∧(s.val=0∨s.fin=1)):=by simp[endB,h]
theorem qOX {L:List (List Shape)} (h:s.fin=0) (hv:s.val≠0):endB m L s=false:=by simp[endB,h,hv]
theorem qME {L:List (List Shape)} (h:s.fin=0) (hv:s.fr=[]):endB m L s=false:=by simp[endB,h,hv]
theorem qKM {L:List (List Shape)} (h:s.fin=0) (hf:s.fr[0]? =some f) (hn:f.fn≠0):endB m L s=false:=by
 cases e:s.fr with
 |nil=>rw[e] at hf;simp at hf
 |cons g gs=>
  rw[e] at hf;simp at hf;subst hf;simp[endB,h,e,hn]
theorem qK9 {L:List (List Shape)} (h:s.fin=0) (hv:s.val=0) (hf:s.fr[0]? =some f) (hn:f.fn=0):endB m L s=(List.range s.fr.length).all (frameB m L s):=by
 cases e:s.fr with
 |nil=>rw[e] at hf;simp at hf
 |cons g gs=>
  rw[e] at hf;simp at hf;subst hf;simp[endB,h,hv,e,hn]
theorem qL6 {L:List (List Shape)} (hk:k<s.fr.length) (h:frameB m L s k=false):(List.range s.fr.length).all (frameB m L s)=false:=by
 rw[List.all_eq_false];exact⟨k,List.mem_range.2 hk,by simp[h]⟩
theorem qF2 {L:List (List Shape)} (h:∀k,k<s.fr.length→frameB m L s k=true):(List.range s.fr.length).all (frameB m L s)=true:=by
 rw[List.all_eq_true];exact fun k hk=>h k (List.mem_range.1 hk)
theorem qHA {s:Stt}:∀{ts:List Typ},(∀t∈ts,t.1≠5)→all2 (hasT s) (List.replicate ts.length 0) ts=true
 |[],_=>rfl
 |t::ts,h=>by
  rw[List.length_cons,List.replicate_succ];simp only[all2,Bool.and_eq_true];exact⟨qEC (h t (by simp)),qHA fun u hu=>h u (by simp[hu])⟩
theorem begin_typed {L:List (List Shape)} {fs:List Fn} {q:Int} (hm:mainB m=true) (hL:RightM m L) (hf:m.funcs=fn::fs) (hq:0≤q∧q≤65536):typedB m L (beginS fn.locs.length q)=true:=by
 have hf0:m.funcs[0]? =some fn:=by rw[hf];rfl
 have hc:checkN m=0:=by
  rcases Decidable.em (checkN m=0) with h|h
  · exact h
  · rw[qD8 h] at hm;cases hm
 rw[qGn hc hf,Bool.and_eq_true,decide_eq_true_eq,decide_eq_true_eq] at hm;have ha:fn.args=[]:=qBY hm.1;have hb:badM m=false:=by
  cases e:badM m
  · rfl
  · rw[qGA (qBo hc) e] at hc;cases hc
 have hl:∀t∈fn.locs,t.1≠5:=fun t ht e=>by
  have:=qG9 (by rw[hf];simp:fn∈m.funcs) (bad_loc (m:=m) ht (by simp[hanB,e]));rw[hb] at this
  cases this
 obtain⟨l,hl0,hlen,-,hr⟩:=hL.get hf0;have h0:=qDJ hr.zero;have hat:atB L 0 0=some []:=by
  have:=qGE (L:=L) (f:=0) (pc:=0) hl0 h0;simpa using this
 rw[qFV (by simp[countB,beginS,hq.1,hq.2]) (by simp[beginS]) (by simp[beginS]),qK9 (f:=⟨0,0,List.replicate fn.locs.length 0,[]⟩) rfl rfl rfl rfl];refine qF2 fun k hk=> ?_;have hk0:k=0:=by simp[beginS] at hk;omega
 subst hk0;simp only[frameB,stackB,beginS,List.getElem?_cons_zero,hat,List.getElem?_cons_succ,List.getElem?_nil,hf,Int.toNat_zero,ha,List.nil_append,allB];rw[Bool.and_eq_true];exact⟨rfl,qHA hl⟩
theorem qKV {L:List (List Shape)} (hc:checkN m=0) (hL:RightM m L) {f:Nat} {l:List Shape} (hf:m.funcs[f]? =some fn) (hl:L[f]? =some l) (hp:l[p]? =some (true,u)) (hi:fn.code[p]? =some i) (h25:i.1=25):
 ∃(g:Nat) (h:Fn),i.2.1=(g:Int)∧i.2.2=0∧m.funcs[g]? =some h∧h.args.length≤u.length:=by
 have hmem:=qBQ hf;obtain⟨-,-,-,hcode⟩:=qCl hc hmem;obtain⟨hg,-⟩:=hcode i (qBQ hi);obtain⟨o,a,b⟩:=i;simp only at h25;subst h25;obtain⟨o1,a1,b1,e1,e2,e3,-,-,-,-,-,hb⟩:=qBm (op:=25) (a:=a) (b:=b) hg;have hb0:b1=0:=hb qp;subst e2 e3 hb0;obtain⟨hll,-,hr⟩:=hL.at_ f fn l hf hl;have hpl:p<fn.code.length:=(qBM.1 hi).1;obtain⟨i',t,ks,h1,h2,-⟩:=hr.at_ p hpl u (qBx hp);rw[hi] at h1;injection h1 with h1;subst h1;refine⟨a1,?_⟩;have hrule:ruleB m fn (25,(a1:Int),((0:Nat):Int)) u=(match m.funcs[a1]? with|some g=>some (g.args,[g.ret])|none=>none):=by
  simp[ruleB]
  cases m.funcs[a1]? <;>rfl
 unfold insB8 at h2;rw[hrule] at h2
 cases hg:m.funcs[a1]? with
 |none=>rw[hg] at h2;simp at h2
 |some h=>
  rw[hg] at h2;refine⟨h,rfl,rfl,rfl,?_⟩;simp only at h2
  by_cases hle:h.args.length≤u.length
  · exact hle
  · have:movB u h.args [h.ret]=none:=by simp[movB,hle]
    rw[this] at h2;simp at h2
theorem qDU {L:List (List Shape)} (hL:RightM m L) {f:Int} (h:atB L f pc=some u):
 ∃(j p:Nat) (fn:Fn) (l:List Shape) (i:Ins),f=(j:Int)∧pc=(p:Int)∧m.funcs[j]? =some fn∧L[j]? =some l∧l[p]? =some (true,u)∧fn.code[p]? =some i∧u.length≤8:=by
 unfold atB at h;split at h
 · cases h
 rename_i hn
 cases hl:L[f.toNat]? with
 |none=>rw[hl] at h;cases h
 |some l=>
  rw[hl] at h;simp only at h;split at h
  · rename_i s hs
    injection h with h;subst h;have hj:f.toNat<m.funcs.length:=by rw[←hL.len];exact(qBM.1 hl).1
    have hf:m.funcs[f.toNat]? =some (m.funcs[f.toNat]):=List.getElem?_eq_getElem hj;obtain⟨hll,h8,-⟩:=hL.at_ _ _ l hf hl;have hp:pc.toNat<(m.funcs[f.toNat]).code.length:=by rw[←hll];exact(qBM.1 hs).1
    exact⟨f.toNat,pc.toNat,_,l,_,by omega,by omega,hf,hl,hs,List.getElem?_eq_getElem hp,h8 _ (qBQ hs)⟩
  · cases h
theorem qG8 {L:List (List Shape)} {f:Nat} {l:List Shape} {g:Int} (hf:m.funcs[f]? =some fn) (hl:L[f]? =some l) (hp:l[p]? =some (true,u)) (hi:fn.code[p]? =some i):
 belowB m L (f:Int) ((p:Int)+1) g=if i.1=25∧i.2.1=g then (match m.funcs[g.toNat]? with|none=>none|some h=>some (u.take (u.length-h.args.length))) else none:=by
 unfold belowB;rw[show((p:Int)+1-1)=(p:Int) by omega,qGE hl hp];simp[hf,hi]
 try(split<;>first|rfl|(cases m.funcs[g.toNat]? <;>rfl))
theorem qG7 {L:List (List Shape)} {f g:Int} (h:atB L f (pc-1)=none):belowB m L f pc g=none:=by simp[belowB,h]
theorem qE4 {L:List (List Shape)} (hf:s.fr[k]? =some f) (hk:s.fr.length=k+1):stackB m L s k=atB L f.fn f.pc:=by
 have:s.fr[k+1]? =none:=List.getElem?_eq_none (by omega);simp only[stackB,hf,this]
 cases atB L f.fn f.pc<;>rfl
theorem qGY {L:List (List Shape)} (hf:s.fr[k]? =some f) (h:atB L f.fn f.pc=none):stackB m L s k=none:=by simp[stackB,hf,h]
theorem qE3 {L:List (List Shape)} {g:Frm} (hf:s.fr[k]? =some f) (hg:s.fr[k+1]? =some g) (h:atB L f.fn f.pc=some u):stackB m L s k=belowB m L f.fn f.pc g.fn:=by simp[stackB,hf,hg,h]
theorem qED {L:List (List Shape)} (hf:s.fr[k]? =some f) (h:stackB m L s k=none):frameB m L s k=false:=by simp[frameB,hf,h]
theorem qDa {L:List (List Shape)} (hf:s.fr[k]? =some f) (h:stackB m L s k=some ts) (hfn:m.funcs[f.fn.toNat]? =some fn):frameB m L s k=(allB s f.stk ts && allB s f.locs (fn.args++fn.locs)):=by
 simp[frameB,hf,h,hfn]
theorem qKD {L:List (List Shape)} (hf:s.fr[k]? =some f) (h:stackB m L s k=some ts) (ha:allB s f.stk ts=false):frameB m L s k=false:=by
 simp[frameB,hf,h,ha]
theorem qHJ {L:List (List Shape)} (hf:s.fr[k]? =some f) (h:stackB m L s k=some ts):∃u,atB L f.fn f.pc=some u:=by
 cases e:atB L f.fn f.pc with
 |some u=>exact⟨u,rfl⟩
 |none=>rw[qGY hf e] at h;cases h
structure Evt where
 imp:Int
 args:List Nat
def at0 (l:List Nat) (k:Nat):Nat:=(l[k]?).getD 0
def trapS (s:Stt) (e:Int):Stt:={s with fin:=e}
def addS (s:Stt) (o:Ob):Stt×List Nat:=
 if s.quota<s.used+o.cost∨4096≤s.hp.length then (trapS s 5,[]) else ({s with hp:=s.hp++[o],used:=s.used+o.cost},[s.hp.length+1])
def putO (s:Stt) (r:Nat) (o:Ob):Stt:={s with hp:=s.hp.set (r-1) o}
def reachS (s:Stt) (i:Ins) (inn:List Nat):Stt×List Nat:=
 match s.hp[at0 inn 0-1]? with
 |none=>(trapS s 4,[])
 |some o=>
  if at0 inn 0=0 then (trapS s 4,[])
  else if i.1=29 then (s,[at0 o.words i.2.2.toNat])
  else if i.1=30 then (putO s (at0 inn 0) {o with words:=o.words.set i.2.2.toNat (at0 inn 1)},[])
  else if i.1=34 then (s,[o.words.length])
  else if i.1=38 then (s,[o.bytes.length])
  else if i.1=32 then (if o.words.length≤at0 inn 1 then (trapS s 3,[]) else (s,[at0 o.words (at0 inn 1)]))
  else if i.1=33 then (if o.words.length≤at0 inn 1 then (trapS s 3,[]) else (putO s (at0 inn 0) {o with words:=o.words.set (at0 inn 1) (at0 inn 2)},[]))
  else if i.1=36 then (if o.bytes.length≤at0 inn 1 then (trapS s 3,[]) else (s,[at0 o.bytes (at0 inn 1)]))
  else (if o.bytes.length≤at0 inn 1 then (trapS s 3,[]) else (putO s (at0 inn 0) {o with bytes:=o.bytes.set (at0 inn 1) (at0 inn 2 % 256)},[]))
def hnAt (s:Stt) (v:Nat):Hnd:=(s.hn[v]?).getD ⟨0,0,false⟩
def hostS (m:Mod) (s:Stt) (a:Int) (inn:List Nat) (ans:Nat):Stt×List Nat×List Evt:=
 match m.imps[a.toNat]? with
 |none=>(s,[],[])
 |some p=>
  if ((inn.zip p.args).any fun x=>decide (x.2.1=5) && !(hnAt s x.1).opn)=true then (trapS s 7,[],[])
  else if p.ret.1=5 then (if 16≤s.hn.length then (trapS s 5,[],[⟨a,(inn.zip p.args).map fun x=>if x.2.1=5 then (hnAt s x.1).desc else x.1⟩]) else ({s with hn:=s.hn++[⟨p.ret.2,ans,true⟩]},[s.hn.length],[⟨a,(inn.zip p.args).map fun x=>if x.2.1=5 then (hnAt s x.1).desc else x.1⟩]))
  else (s,[ans],[⟨a,(inn.zip p.args).map fun x=>if x.2.1=5 then (hnAt s x.1).desc else x.1⟩])
def doS (m:Mod) (s:Stt) (i:Ins) (inn:List Nat) (ans:Nat):Stt×List Nat×List Evt:=
 if i.1=0 then (s,[at0 m.ints i.2.1.toNat],[])
 else if i.1=1 then ((addS s ⟨2,0,[],(m.texts[i.2.1.toNat]?).getD []⟩).1,(addS s ⟨2,0,[],(m.texts[i.2.1.toNat]?).getD []⟩).2,[])
 else if i.1=2 then (s,[0],[])
 else if i.1=5 then (s,[],[])
 else if i.1=6 then (s,[at0 inn 0,at0 inn 0],[])
 else if i.1=7 then (s,[at0 inn 1,at0 inn 0],[])
 else if i.1=22 then (s,[cxRe (at0 inn 0) (at0 inn 1),cxIm (at0 inn 0) (at0 inn 1)],[])
 else if i.1=27 then hostS m s i.2.1 inn ans
 else if i.1=28 then ((addS s ⟨4,i.2.1,inn,[]⟩).1,(addS s ⟨4,i.2.1,inn,[]⟩).2,[])
 else if i.1=31 then (if 64<at0 inn 0 then (trapS s 3,[],[]) else ((addS s ⟨3,0,List.replicate (at0 inn 0) 0,[]⟩).1,(addS s ⟨3,0,List.replicate (at0 inn 0) 0,[]⟩).2,[]))
 else if i.1=35 then (if 64<at0 inn 0 then (trapS s 3,[],[]) else ((addS s ⟨2,0,[],List.replicate (at0 inn 0) 0⟩).1,(addS s ⟨2,0,[],List.replicate (at0 inn 0) 0⟩).2,[]))
 else if 29≤i.1∧i.1≤38 then ((reachS s i inn).1,(reachS s i inn).2,[])
 else if i.1=39 then (s,[if at0 inn 0=0 then 1 else 0],[])
 else if i.1=40 then (s,[if at0 inn 0=at0 inn 1 then 1 else 0],[])
 else if i.1=41 then (if (hnAt s (at0 inn 0)).opn=true then ({s with hn:=s.hn.set (at0 inn 0) {hnAt s (at0 inn 0) with opn:=false}},[],[]) else (trapS s 7,[],[]))
 else match arN i.1 (at0 inn 0) (at0 inn 1) with
  |none=>(trapS s 2,[],[])
  |some v=>(s,[v],[])
def takeN (m:Mod) (fn:Fn) (i:Ins):Nat:=
 if i.1=6∨i.1=41 then 1 else if i.1=7 then 2 else match ruleB m fn i [] with|some (ins,_)=>ins.length|none=>0
def endS (s:Stt):Stt:=if s.fin=0 then s else {s with fr:=[],hp:=[]}
def goS (m:Mod) (s:Stt) (f:Frm) (rest:List Frm) (fn:Fn) (i:Ins) (ans:Nat):Stt×List Evt:=
 let n:=f.stk.length-takeN m fn i
 let st:=f.stk.take n
 let inn:=f.stk.drop n
 if i.1=3 then ({s with fr:=(rest.reverse++[⟨f.fn,f.pc+1,f.locs,st++[at0 f.locs i.2.1.toNat]⟩])},[])
 else if i.1=4 then ({s with fr:=rest.reverse++[⟨f.fn,f.pc+1,f.locs.set i.2.1.toNat (at0 inn 0),st⟩]},[])
 else if i.1=23 then ({s with fr:=rest.reverse++[⟨f.fn,i.2.1,f.locs,st⟩]},[])
 else if i.1=24 then ({s with fr:=rest.reverse++[⟨f.fn,if at0 inn 0=0 then i.2.1 else f.pc+1,f.locs,st⟩]},[])
 else if i.1=25 then (if s.fr.length=8 then (endS (trapS s 6),[]) else ({s with fr:=rest.reverse++[⟨f.fn,f.pc+1,f.locs,st⟩,⟨i.2.1,0,inn++List.replicate (((m.funcs[i.2.1.toNat]?).map fun g=>g.locs.length).getD 0) 0,[]⟩]},[]))
 else if i.1=26 then (match rest with
  |[]=>({s with fr:=[],hp:=[],fin:=1,val:=at0 inn 0},[])
  |g::r=>({s with fr:=r.reverse++[⟨g.fn,g.pc,g.locs,g.stk++[at0 inn 0]⟩]},[]))
 else (endS {(doS m s i inn ans).1 with fr:=rest.reverse++[⟨f.fn,f.pc+1,f.locs,st++(doS m s i inn ans).2.1⟩]},(doS m s i inn ans).2.2)
def stepS (m:Mod) (s:Stt) (ans:Nat):Stt×List Evt:=
 match s.fr.reverse with
 |[]=>(s,[])
 |f::rest=>match m.funcs[f.fn.toNat]? with
  |none=>(s,[])
  |some fn=>match fn.code[f.pc.toNat]? with
   |none=>(s,[])
   |some i=>goS m s f rest fn i ans
structure Ext (s t:Stt):Prop where
 hp:∀(j:Nat) (o:Ob),s.hp[j]? =some o→∃o',t.hp[j]? =some o'∧o'.kind=o.kind∧o'.n=o.n
 hn:∀(j:Nat) (h:Hnd),s.hn[j]? =some h→∃h',t.hn[j]? =some h'∧h'.kind=h.kind
theorem Ext.refl {t:Stt} (h1:t.hp=s.hp) (h2:t.hn=s.hn):Ext s t:=⟨fun j o h=>⟨o,by rw[h1];exact h,rfl,rfl⟩,fun j o h=>⟨o,by rw[h2];exact h,rfl⟩⟩
theorem qOE {t:Stt} (h:Ext s t) {ty:Typ} (hv:hasT s v ty=true):hasT t v ty=true:=by
 unfold hasT at hv⊢;split
 · rfl
 · rename_i h1
   rw[if_neg h1] at hv;split
   · rename_i h5
     rw[if_pos h5] at hv
     cases e:s.hn[v]? with
     |none=>rw[e] at hv;cases hv
     |some x=>
      obtain⟨x',e',k⟩:=h.hn v x e;rw[e] at hv;rw[e'];simpa[k] using hv
   · rename_i h5
     rw[if_neg h5] at hv;split
     · rfl
     · rename_i h0
       rw[if_neg h0] at hv;split
       · rename_i h6
         rw[if_pos h6] at hv
         cases hv
       · rename_i h6
         rw[if_neg h6] at hv
         cases e:s.hp[v-1]? with
         |none=>rw[e] at hv;cases hv
         |some x=>
          obtain⟨x',e',k1,k2⟩:=h.hp (v-1) x e;rw[e] at hv;rw[e'];simpa[k1,k2] using hv
theorem qJH {α β:Type} {f g:α→β→Bool} (h:∀a b,f a b=true→g a b=true):∀{xs:List α} {ys:List β},all2 f xs ys=true→all2 g xs ys=true
 |[],[],_=>rfl
 |[],_::_,q=>by simp[all2] at q
 |_::_,[],q=>by simp[all2] at q
 |a::xs,b::ys,q=>by
  simp only[all2,Bool.and_eq_true] at q⊢;exact⟨h a b q.1,qJH h q.2⟩
theorem qOp {t:Stt} (h:Ext s t) {l:List Nat} (q:allB s l ts=true):allB t l ts=true:=qJH (fun a b=>qOE h) q
theorem qOB {a b:Typ} (h:hasT s v a=true) (hs:subT a b=true):hasT s v b=true:=by
 obtain⟨a,a'⟩:=a;obtain⟨b,b'⟩:=b;simp only[subT,subB,refB,Bool.or_eq_true,Bool.and_eq_true,beq_iff_eq] at hs;rcases hs with(⟨rfl,rfl⟩|rfl)|⟨⟨h1,h2⟩,h3⟩
 · exact h
 · simp[hasT]
 by_cases hb7:b=7
 · subst hb7
   by_cases hv:v=0
   · subst hv;exact qEC (by simp)
   by_cases ha6:a=6
   · subst ha6
     rw[qEu rfl] at h;simp[hv] at h
   have e1:¬(a=1∨a=8):=by omega
   have e2:¬a=5:=by omega
   unfold hasT at h;simp only[e1,e2,hv,ha6,if_false] at h
   cases e:s.hp[v-1]? with
   |none=>rw[e] at h;cases h
   |some o=>rw[qIu (by simp) (by simp) (by simp) hv (by simp) e];simp
 · have ha6:a=6:=by omega
   subst ha6;rw[qEu rfl] at h;have hv:v=0:=by simpa using h
   subst hv;exact qEC qK
theorem qKb {s:Stt}:∀{l:List Nat} {a b:List Typ},allB s l a=true→belowT a b=true→allB s l b=true
 |[],[],[],_,_=>rfl
 |[],[],_::_,_,h=>by simp[belowT] at h
 |[],_::_,_,h,_=>by simp[allB,all2] at h
 |_::_,[],_,h,_=>by simp[allB,all2] at h
 |_::_,_::_,[],_,h=>by simp[belowT] at h
 |x::l,t::a,u::b,h,k=>by
  simp only[allB,all2,Bool.and_eq_true] at h⊢;simp only[belowT,Bool.and_eq_true] at k;exact⟨qOB h.1 k.1,qKb (s:=s) h.2 k.2⟩
theorem allB_drop {l:List Nat} {a:List Typ} (h:allB s l a=true) (n:Nat):allB s (l.drop n) (a.drop n)=true:=by
 induction l generalizing a n with
 |nil=>cases a<;>simp[allB,all2] at h⊢
 |cons x l ih=>
  cases a with
  |nil=>simp[allB,all2] at h
  |cons t a=>
   cases n with
   |zero=>exact h
   |succ n=>
    simp only[allB,all2,Bool.and_eq_true] at h;simpa using ih h.2 n
theorem qEk {l:List Nat} {a:List Typ} (h:allB s l a=true):l.length=a.length:=qJG h
structure Low (s:Stt):Prop where
 q:0≤s.quota∧s.quota≤65536
 u:0≤s.used∧s.used≤65536
 o:s.hp.length≤4096
 h:s.hn.length≤16
 z:∀o∈s.hp,o.small
 f:s.fin=0
theorem Mf.gm (h:Mf K S w s f):
 K.gm<w.heap.size∧w.cell? ⟨K.gm,0,none⟩=some (.pointer (some ⟨K.go,0,none⟩))∧w.cell? ⟨K.gm,1,none⟩=some (.pointer (some ⟨K.gh,0,none⟩)):=by
 obtain⟨tg,css,q⟩:=h;exact⟨q.blk.lt,q.blk.cell 0,q.blk.cell 1⟩
theorem Mf.prog (h:Mf K S w s f):modL.R (fun b=>S b∧b<w.heap.size) w [K.P.p0,K.P.p1,K.P.p2,K.P.p3,K.P.p4] K.m∧w.cell? ⟨K.gm,5,none⟩=some K.P.p0∧w.cell? ⟨K.gm,6,none⟩=some K.P.p1∧w.cell? ⟨K.gm,7,none⟩=some K.P.p2∧w.cell? ⟨K.gm,8,none⟩=some K.P.p3∧w.cell? ⟨K.gm,9,none⟩=some K.P.p4:=by
 obtain⟨tg,css,q⟩:=h;exact⟨modL.wide q.md fun b hb=>q.own b (by omega),q.blk.cell 5,q.blk.cell 6,q.blk.cell 7,q.blk.cell 8,q.blk.cell 9⟩
theorem Mf.wide {T:Nat→Prop} (h:Mf K S w s f) (hT:∀b,S b→T b):Mf K T w s f:=Mc.wide h fun b _=>hT b
theorem Mf.then (hb:Below w.heap.size w w1) (h:Mf K (Own S w1 w') w' s f∧Trn S w1 w'):Mf K (Own S w w') w' s f∧Trn S w w':=
 ⟨h.1.wide (qEq hb.size),(Trn.of_below hb).trans h.2 fun _ _ q=>q⟩
theorem made_ns (n:Nat):madeCells #[Value.int .u64 0] n=(Ns (List.replicate n 0)).toArray:=by
 apply Array.toList_inj.1
 rw[toList_madeCells_one];simp[Ns]
theorem Mf.val {t:Stt} (h:Mf K S w s f) (e:s=t):Mf K S w t f:=e▸h
def zeroS (s:Stt) (b:Bool) (n:Nat):Stt×List Nat:=if 64<n then (trapS s 3,[]) else addS s (if b=true then ⟨2,0,[],List.replicate n 0⟩ else ⟨3,0,List.replicate n 0,[]⟩)
def arS (op:Int) (a b:Nat):Nat×Int:=match arN op a b with|some x=>(x,0)|none=>(0,2)
def hearS (s:Stt) (t:Typ) (ans:Nat):Stt×Nat×Int:=if t.1=5 then (if 16≤s.hn.length then (s,0,5) else ({s with hn:=s.hn++[⟨t.2,ans,true⟩]},s.hn.length,0)) else (s,ans,0)
theorem qFd (n:Nat) (hn:n≤1000) (w:World):(Instr.makeSlice 25 (.int .i64 (n:Nat)) (.int .i64 (n:Nat))).run Tryz.prog w= .ok (.slice (some ⟨w.heap.size,0,none⟩) n n) (w.alloc (.cells (madeCells #[.int .u64 0] n) 32)):=by
 obtain⟨i,hi,hz,hs,hb⟩:=info_parts qEX;have:=run_make (P:=Tryz.prog) w 25 32 i _ Tryz.underlying25 hi hz .i64 .i64 (n:Int) (n:Int) (by omega) (Int.le_refl _) (by rw[hb];omega) (by omega);rw[hs,Int.toNat_natCast,Nat.mul_one] at this;exact this
def evL:Lay Evt where
 k:=2
 R S w cs e:=∃v0,cs=[.int .i64 e.imp,v0]∧I64 e.imp∧wrdL.R S w [v0] e.args
 len:=by rintro S w cs x ⟨v0,rfl,_⟩;rfl
 keep:=by rintro S w w' cs x ⟨v0,rfl,h1,h2⟩ hk;exact⟨v0,rfl,h1,wrdL.keep h2 hk⟩
 wide:=by rintro S T w cs x ⟨v0,rfl,h1,h2⟩ hk;exact⟨v0,rfl,h1,wrdL.wide h2 hk⟩
 one:=by
  rintro S w cs x ⟨v0,rfl,h1,h2⟩ u hu;simp at hu;rcases hu with rfl|rfl
  · rfl
  · exact wrdL.one h2 _ (by simp)
theorem qGG (w:World) {ops:Array Oper} {rest:List Oper} {o:Oper} {a:Act} {Q:Exit→Act→World→Prop} (hgd:o.guard=none) (d s:Operand)
 (ho:o.op= .call {callee:= .builtin .copy,args:= #[d,s],argTypes:= #[25,25]}) (g n c':Nat) (A:Option Addr) (m c:Nat) (zs ys:List Nat) (hd:a.eval d= .slice (some ⟨g,0,none⟩) n c') (hs:a.eval s= .slice A m c)
 (hg:Blk w g 32 (Ns zs).toArray) (hz:zs.length=n) (hm:ys.length=m) (hmn:m≤n) (T:Nat→Prop) (hq:Sq numL T w A ys)
 (h:∀w',Blk w' g 32 (Ns (ys++zs.drop m)).toArray→Only g w w'→wpList Tryz.prog ops Q rest (a.put o.dst (goInt m)) w'):wpList Tryz.prog ops Q (o::rest) a w:=by
 have hu:Tryz.prog.underlying 25=some (.slice 32):=Tryz.underlying25;have hsz:(Tryz.prog.info? 32).map (·.size)=some 1:=by
  obtain⟨i0,hi0,hz0,hz1,hz2⟩:=info_parts qEX;rw[hi0];simp[hz1]
 by_cases h0:m=0
 · subst h0
   obtain rfl:ys=[]:=qBY hm;exact wpList_copy_nothing hgd d s _ _ ho _ hu hsz _ _ _ _ _ _ hd hs (by simp) (h w (by simpa using hg) (qBv _ _))
 · obtain⟨ad,rfl,-,-⟩:=hq (by omega)
   have:=wpList_copy_own (P:=Tryz.prog) (w:=w) (ops:=ops) (rest:=rest) (Q:=Q) hgd d s _ _ ho _ hu hsz g 0 n c' ad m c hd hs _ _ hg (Ns ys) (by rw[qBz,hm];exact(Nat.min_eq_left hmn).symm) (fun j u hu=>by
    have hj:=(qBM.1 hu).1;rw[qBz] at hj;obtain⟨a',e,-,hc,-⟩:=qFn hq (List.getElem?_eq_getElem hj);obtain rfl:=Option.some.inj e;rw[qHB (List.getElem?_eq_getElem hj)] at hu;exact hc.trans hu) (by simp[qBz];omega) (qOs ys)
   rw[qBz,hm] at this;refine this (h _ ?_ ⟨rfl,rfl,rfl,by simp[World.setRow],fun k _ hk=>setRow_other w g k _ fun e=>hk (by rw[e])⟩);have:=setRow_heap w g _ (([]++(Ns ys++(Ns zs).drop (0+m))).toArray) _ _ hg;rw[List.nil_append,Nat.zero_add] at this;rw[Nat.zero_add,List.take_zero,List.nil_append];have e:Ns (ys++zs.drop m)=Ns ys++(Ns zs).drop m:=by simp[Ns]
   rw[e];exact this
def toldS (s:Stt) (p:Imp) (inn:List Nat):List Nat:=(inn.zip p.args).map fun x=>if x.2.1=5 then (hnAt s x.1).desc else x.1
def shutS (s:Stt) (p:Imp) (inn:List Nat):Bool:=(inn.zip p.args).any fun x=>decide (x.2.1=5) && !(hnAt s x.1).opn
def FD (K:Mch) (S:Nat→Prop) (w:World) (t:Stt) (fn pc:Int) (l st:List Nat) (v:Nat) (en:Int) (e:Ending) (w':World):Prop:=
 e= .returned (.tuple #[.int .u64 (v:Int),.int .i64 en])∧Mf K (Own S w w') w' t ⟨fn,pc,l,st⟩∧Trn S w w'
theorem qK3 {V:World} {g:Nat} {cs:Array Value} {ty:TypeId} (hb:Blk w1 g ty cs) (hS:¬S g) (ht:Trn S w1 V):Blk V g ty cs:=(ht.block g hb.lt hS).trans hb
theorem qFv (h:Mf K S w s f) (hS:∀b,S b→b<w.heap.size) (o a b:Int) (W:World) (hW:W=w.alloc (.cells #[.int .i64 o,.int .i64 a,.int .i64 b] 65)):
 Mf K S W s f∧(∀(w':World) (t:Stt) (f':Frm),Mf K (Own S W w') w' t f'∧Trn S W w'→Mf K (Own S w w') w' t f'∧Trn S w w')∧∀V,Trn S W V→V.cell? ⟨w.heap.size,0,none⟩=some (.int .i64 o)∧V.cell? ⟨w.heap.size,1,none⟩=some (.int .i64 a)∧V.cell? ⟨w.heap.size,2,none⟩=some (.int .i64 b):=by
 have hb:Below w.heap.size w W:=by rw[hW];exact(qBO _ _).alloc (qBL _) _
 have hk:Blk W w.heap.size 65 #[.int .i64 o,.int .i64 a,.int .i64 b]:=by rw[hW];exact qBl rfl
 exact⟨h.below hb,fun w' t f' q=>Mf.then hb q,fun V hV=>by
  have:=qK3 hk (fun q=>by have:=hS _ q;omega) hV;exact⟨this.cell 0,this.cell 1,this.cell 2⟩⟩
theorem Mf.next (ht:Trn S w w1) (h:Mf K (Own S w1 w') w' s f∧Trn S w1 w'):Mf K (Own S w w') w' s f∧Trn S w w':=
 ⟨h.1.wide (qEq ht.size),ht.trans h.2 fun _ _ q=>q⟩
theorem Mf.ints (h:Mf K S w s f) {x:Nat} (hx:K.m.ints[a]? =some x):
 ∃A c,w.cell? ⟨K.gm,8,none⟩=some (.slice (some A) K.m.ints.length c)∧w.cell? (A.add a)=some (.int .u64 (x:Int))∧a<K.m.ints.length:=by
 obtain⟨⟨v0,v1,v2,v3,v4,e,r0,r1,r2,⟨A,c,e3,-,-,hs⟩,r4⟩,c5,c6,c7,c8,c9⟩:=h.prog;simp only[List.cons.injEq,and_true] at e e3;obtain⟨a',rfl,-,hc,-⟩:=qFn hs hx;exact⟨a',c,by rw[c8,e.2.2.2.1,e3],hc,(qBM.1 hx).1⟩
theorem Mf.texts (h:Mf K S w s f) {x:List Nat} (hx:K.m.texts[a]? =some x):
 ∃A c y,w.cell? ⟨K.gm,9,none⟩=some (.slice (some A) K.m.texts.length c)∧w.cell? (A.add a)=some (.string y)∧x=strB y∧a<K.m.texts.length:=by
 obtain⟨⟨v0,v1,v2,v3,v4,e,r0,r1,r2,r3,⟨A,c,e4,-,-,hs⟩⟩,c5,c6,c7,c8,c9⟩:=h.prog;simp only[List.cons.injEq,and_true] at e e4;obtain⟨a',cs,rfl,-,hc,y,rfl,rfl⟩:=hs.at hx;exact⟨a',c,y,by rw[c9,e.2.2.2.2,e4],by have:=hc 0 _ rfl;rw[show a*strL.k+0=a by show a*1+0=a;omega] at this;exact this,rfl,(qBM.1 hx).1⟩
theorem Mf.recs (h:Mf K S w s f) {x:List Typ} (hx:K.m.recs[a]? =some x):
 ∃A c B d,w.cell? ⟨K.gm,5,none⟩=some (.slice (some A) K.m.recs.length c)∧w.cell? (A.add a)=some (.slice B x.length d)∧a<K.m.recs.length:=by
 obtain⟨⟨v0,v1,v2,v3,v4,e,⟨A,c,e0,-,-,hs⟩,-⟩,c5,c6,c7,c8,c9⟩:=h.prog;simp only[List.cons.injEq,and_true] at e e0;obtain⟨a',cs,rfl,-,hc,B,d,rfl,-⟩:=hs.at hx;exact⟨a',c,B,d,by rw[c5,e.1,e0],by have:=hc 0 _ rfl;rw[show a*tysL.k+0=a by show a*1+0=a;omega] at this;exact this,(qBM.1 hx).1⟩
theorem Mf.loc0 (h:Mf K S w s f):K.gF<w.heap.size∧S K.gF∧w.cell? ⟨K.gF,K.F.length*4+1,none⟩=some (.int .i64 f.pc)∧w.frozen? ⟨K.gF,K.F.length*4+1,none⟩=false∧(∀pc:Int,I64 pc→Mf K S (w.setCell ⟨K.gF,K.F.length*4+1,none⟩ (.int .i64 pc)) s {f with pc:=pc})∧w.cell? ⟨K.gF,K.F.length*4,none⟩=some (.int .i64 f.fn):=by
 obtain⟨gF,c,A,cl,v1,ev,hc1,hc2,hne,hlt,hS,hfz,e0,e1,e2,e3,b1,b2,i1,i2,x1,x2,hl,-,-,hp,-⟩:=h.top rfl;injection ev with e4 e5 e6;injection e4 with e4;injection e4 with e4;subst e4;exact⟨hlt,hS,e1,hfz _,hp,e0⟩
open Ieee
def Whole (m:Nat) (p:Int) (N:Nat):Prop:=∀b:Int,b≤p→b≤0→m*2 ^ (p-b).toNat=N*2 ^ (-b).toNat
def sg (s:Bool):Int:=if s then -1 else 1
def IsInt (d:Datum) (n:Int):Prop:=∃(s:Bool) (m:Nat) (p:Int) (N:Nat),d= .number s m p∧n=sg s*(N:Int)∧Whole m p N
open Ieee
def Wd (b:Nat) (n:Int):Prop:=IsInt (double.read b) n
def WN (K:Mch) (S:Nat→Prop) (w:World) (t:Stt) (f:Frm) (en:Int) (e:Ending) (w':World):Prop:=
 e= .returned (.int .i64 en)∧Mf K (Own S w w') w' t f∧Trn S w w'
def shutH (H:List Hnd) (n:Nat):List Hnd×Int:=if opnB H n=true then (closeH H n,0) else (H,7)
theorem Mf.grown (ht:Trn S w w1) (h:Mf K (Own (Own S w w1) w1 w') w' s f∧Trn (Own S w w1) w1 w'):Mf K (Own S w w') w' s f∧Trn S w w':=by
 have h1:=ht.size;have h2:=h.2.size;refine⟨h.1.wide fun b hb=> ?_,ht.trans h.2 fun i hi q=>q.elim id fun q=>by omega⟩;rcases hb with(hb|hb)|hb
 · exact .inl hb
 · exact .inr ⟨hb.1,by omega⟩
 · exact .inr ⟨by omega,hb.2⟩
end Go.Proofs.YtgdbhanhmenmfaaGreat
