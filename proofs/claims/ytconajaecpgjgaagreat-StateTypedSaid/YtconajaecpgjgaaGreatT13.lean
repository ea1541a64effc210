/-
Gp Gq Gu Ga Gh Ge Go
-/
import Derived.Test.YtconajaecpgjgaaGreatT01
import Derived.Test.YtconajaecpgjgaaGreatT02
import Derived.Test.YtconajaecpgjgaaGreatT07
import Derived.Test.YtconajaecpgjgaaGreatT08
import Derived.Test.YtconajaecpgjgaaGreatT09
import Derived.Test.YtconajaecpgjgaaGreatT10
import Derived.BigQuiet
import Derived.Deep.DeepCutAuto
import Derived.Lib.QuietBelow
import Derived.Laws.EntriesVeiled
set_option linter.unusedSimpArgs false
set_option linter.unusedVariables false
set_option maxRecDepth 100000
set_option maxHeartbeats 4000000
namespace Go.Proofs.YtconajaecpgjgaaGreat
open Go.RowKit
theorem zA {P:Prop} (h:P:=by
 go_enter Tryz.func63,Tryz.ntmps63
 go_wp2_with fail
 go_ret
 exact⟨by rw[HO.out];simp;omega,HB0.out _⟩):P:=h
theorem zT {P:Prop} (h:P:=by
 generalize y.1=k1 at*
 generalize y.2=k2 at*
 go_enter Tryz.func60,Tryz.ntmps60
 go_wp2_with fail
 go_ret
 exact⟨by rw[HT.out];rfl,HB0.out _⟩):P:=h
theorem jc {P:Prop} (h:P:=by
 have t0:(nn != 0)=true:=by simpa using f0
 have HF:=qAZ f0
 clear f0
 go_enter Tryz.func63,Tryz.ntmps63
 go_wp2_with fail
 go_ret
 exact⟨by rw[HO.out];simp[HF.out],HB0.out _⟩):P:=h
def all2 {α β:Type} (f:α→β→Bool):List α→List β→Bool
 |[],[]=>true
 |a::xs,b::ys=>f a b && all2 f xs ys
 |_,_=>false
theorem qJb {α β:Type} {f:α→β→Bool} {xs:List α} {ys:List β} (h:all2 f xs ys=true):xs.length=ys.length:=by
 induction xs generalizing ys with
 |nil=>cases ys<;>simp[all2] at h⊢
 |cons x xs ih=>
  cases ys with
  |nil=>simp[all2] at h
  |cons y ys=>simp only[all2,Bool.and_eq_true] at h;simp[ih h.2]
theorem qG9 {α β:Type} {f:α→β→Bool} {xs:List α} {ys:List β} (h:xs.length≠ys.length):all2 f xs ys=false:=by
 cases e:all2 f xs ys
 · rfl
 · exact absurd (qJb e) h
theorem qG8 {α β:Type} {f:α→β→Bool} {xs:List α} {ys:List β} {k:Nat} {x:α} {y:β} (hx:xs[k]? =some x) (hy:ys[k]? =some y) (h:f x y=false):all2 f xs ys=false:=by
 induction xs generalizing ys k with
 |nil=>simp at hx
 |cons a xs ih=>
  cases ys with
  |nil=>simp at hy
  |cons b ys=>
   cases k with
   |zero=>
    simp at hx hy
    subst hx hy
    simp[all2,h]
   |succ k=>
    simp only[all2,ih (by simpa using hx) (by simpa using hy),Bool.and_false]
theorem qJc {α β:Type} {f:α→β→Bool} {xs:List α} {ys:List β} {x:α} {y:β} (h:all2 f xs ys=true) (hf:f x y=true):all2 f (xs++[x]) (ys++[y])=true:=by
 induction xs generalizing ys with
 |nil=>cases ys<;>simp[all2,hf] at h⊢
 |cons a xs ih=>
  cases ys with
  |nil=>simp[all2] at h
  |cons b ys=>
   simp only[all2,Bool.and_eq_true,List.cons_append] at h⊢
   exact⟨h.1,ih h.2⟩
theorem qEp {α β:Type} {f:α→β→Bool} {xs:List α} {ys:List β} {k:Nat} {x:α} {y:β} (h:all2 f (xs.take k) (ys.take k)=true) (hx:xs[k]? =some x) (hy:ys[k]? =some y) (hf:f x y=true):all2 f (xs.take (k+1)) (ys.take (k+1))=true:=by
 obtain⟨h1,rfl⟩:=qAh.1 hx
 obtain⟨h2,rfl⟩:=qAh.1 hy
 rw[qAu h1,qAu h2]
 exact qJc h hf
theorem qEq {α β:Type} {f:α→β→Bool} {xs:List α} {ys:List β} {n:Nat} (h:all2 f (xs.take n) (ys.take n)=true) (hx:xs.length=n) (hy:ys.length=n):all2 f xs ys=true:=by
 rwa [qAr (by omega),qAr (by omega)] at h
def hasT (s:Stt) (v:Nat) (t:Typ):Bool:=
 if t.1=1∨t.1=8 then true
 else if t.1=5 then (match s.hn[v]? with|some h=>decide (h.kind=t.2)|none=>false)
 else if v=0 then true
 else if t.1=6 then false
 else match s.hp[v-1]? with
  |some o=>decide (t.1=7∨(t.1=o.kind∧t.2=o.n))
  |none=>false
theorem qDI {s:Stt} {v:Nat} {t:Typ} (h:t.1=1∨t.1=8):hasT s v t=true:=by simp[hasT,h]
theorem qFx {s:Stt} {v:Nat} {t:Typ} {x:Hnd} (h:t.1=5) (hx:s.hn[v]? =some x):hasT s v t=decide (x.kind=t.2):=by simp[hasT,h,hx]
theorem qDd {s:Stt} {v:Nat} {t:Typ} (h:t.1=5) (hx:s.hn.length≤v):hasT s v t=false:=by simp[hasT,h,List.getElem?_eq_none hx]
theorem qEe {s:Stt} {t:Typ} (h:t.1≠5):hasT s 0 t=true:=by simp[hasT,h]
theorem qEf {s:Stt} {v:Nat} {t:Typ} (h:t.1=6):hasT s v t=decide (v=0):=by
 by_cases e:v=0
 · simp[hasT,h,e]
 · simp[hasT,h,e]
theorem qFv {s:Stt} {v:Nat} {t:Typ} {o:Ob} (h1:t.1≠1) (h2:t.1≠8) (h3:t.1≠5) (h4:v≠0) (h5:t.1≠6) (ho:s.hp[v-1]? =some o):hasT s v t=decide (t.1=7∨(t.1=o.kind∧t.2=o.n)):=by simp[hasT,h1,h2,h3,h4,h5,ho]
theorem qFw {s:Stt} {v:Nat} {t:Typ} (h1:t.1≠1) (h2:t.1≠8) (h3:t.1≠5) (h4:v≠0) (ho:s.hp.length<v):hasT s v t=false:=by
 have:s.hp[v-1]? =none:=List.getElem?_eq_none (by omega)
 simp[hasT,h1,h2,h3,h4,this]
def allB (s:Stt) (l:List Nat) (ts:List Typ):Bool:=all2 (hasT s) l ts
def handB (h:Hnd):Bool:=decide (0≤h.kind∧h.kind≤3)
def objB (m:Mod) (s:Stt) (o:Ob):Bool:=
 if o.kind=2 then decide (o.n=0∧o.words.length=0∧o.bytes.length≤64)
 else if o.kind=3 then decide (o.n=0∧o.words.length≤64∧o.bytes.length=0)
 else if o.kind=4 then (if o.n<0 then false else match m.recs[o.n.toNat]? with
  |some r=>decide (o.bytes.length=0) && allB s o.words r
  |none=>false)
 else false
def atB (L:List (List Shape)) (f pc:Int):Option (List Typ):=
 if f<0∨pc<0 then none
 else match L[f.toNat]? with
  |none=>none
  |some l=>match l[pc.toNat]? with
   |some (true,s)=>some s
   |_=>none
theorem qDL {L:List (List Shape)} {f pc:Int} (h:f<0∨pc<0):atB L f pc=none:=by simp[atB,h]
theorem qG7 {L:List (List Shape)} {f pc:Int} (h:L.length≤f.toNat):atB L f pc=none:=by
 unfold atB
 rw[List.getElem?_eq_none h]
 split<;>rfl
theorem qG6 {L:List (List Shape)} {f pc:Nat} {l:List Shape} (h:L[f]? =some l):atB L (f:Int) (pc:Int)=(match l[pc]? with|some (true,s)=>some s|_=>none):=by
 unfold atB
 rw[if_neg (by omega)]
 simp[h]
theorem qDK {L:List (List Shape)} {f pc:Nat} {l:List Shape} {b:Bool} {s:List Typ} (h:L[f]? =some l) (h':l[pc]? =some (b,s)):atB L (f:Int) (pc:Int)=if b then some s else none:=by
 rw[qG6 h,h']
 cases b<;>rfl
theorem qF6 {L:List (List Shape)} {f pc:Nat} {l:List Shape} (h:L[f]? =some l) (h':l.length≤pc):atB L (f:Int) (pc:Int)=none:=by
 rw[qG6 h,List.getElem?_eq_none h']
def belowB (m:Mod) (L:List (List Shape)) (f pc g:Int):Option (List Typ):=
 match atB L f (pc-1) with
 |none=>none
 |some u=>match m.funcs[f.toNat]? with
  |none=>none
  |some fn=>match fn.code[(pc-1).toNat]? with
   |none=>none
   |some i=>if i.1=25∧i.2.1=g then (match m.funcs[g.toNat]? with|none=>none|some h=>some (u.take (u.length-h.args.length))) else none
def stackB (m:Mod) (L:List (List Shape)) (s:Stt) (k:Nat):Option (List Typ):=
 match s.fr[k]? with
 |none=>none
 |some f=>match atB L f.fn f.pc with
  |none=>none
  |some u=>match s.fr[k+1]? with
   |none=>some u
   |some g=>belowB m L f.fn f.pc g.fn
def frameB (m:Mod) (L:List (List Shape)) (s:Stt) (k:Nat):Bool:=
 match s.fr[k]? with
 |none=>true
 |some f=>match stackB m L s k with
  |none=>false
  |some ts=>allB s f.stk ts && (match m.funcs[f.fn.toNat]? with
   |none=>false
   |some fn=>allB s f.locs (fn.args++fn.locs))
def countB (s:Stt):Bool:=decide (0≤s.quota∧s.quota≤65536∧0≤s.used∧s.used≤s.quota∧0≤s.fin∧s.fin≤7∧s.fr.length≤8∧s.hp.length≤4096∧s.hn.length≤16)
def endB (m:Mod) (L:List (List Shape)) (s:Stt):Bool:=
 if s.fin≠0 then decide (s.fr.length=0∧s.hp.length=0∧(s.val=0∨s.fin=1))
 else decide (s.val=0) && (match s.fr with|[]=>false|f::_=>decide (f.fn=0)) && (List.range s.fr.length).all (frameB m L s)
def typedB (m:Mod) (L:List (List Shape)) (s:Stt):Bool:=countB s && s.hn.all handB && s.hp.all (objB m s) && endB m L s
theorem qBw {m:Mod} {L:List (List Shape)} {s:Stt} (h:countB s=false):typedB m L s=false:=by simp[typedB,h]
theorem qDY {m:Mod} {L:List (List Shape)} {s:Stt} (h:s.hn.all handB=false):typedB m L s=false:=by simp[typedB,h]
theorem qBX {m:Mod} {L:List (List Shape)} {s:Stt} (h:s.hp.all (objB m s)=false):typedB m L s=false:=by simp[typedB,h]
theorem qDv {m:Mod} {L:List (List Shape)} {s:Stt} (h1:countB s=true) (h2:s.hn.all handB=true) (h3:s.hp.all (objB m s)=true):typedB m L s=endB m L s:=by simp[typedB,h1,h2,h3]
theorem qF3 {m:Mod} {L:List (List Shape)} {s:Stt} (h:s.fin≠0):endB m L s=decide (s.fr.length=0∧s.hp.length=0∧(s.val=0∨s.fin=1)):=by simp[endB,h]
theorem qF2 {m:Mod} {L:List (List Shape)} {s:Stt} (h:s.fin=0) (hv:s.val≠0):endB m L s=false:=by simp[endB,h,hv]
theorem qEj {m:Mod} {L:List (List Shape)} {s:Stt} (h:s.fin=0) (hv:s.fr=[]):endB m L s=false:=by simp[endB,h,hv]
theorem qEF {m:Mod} {L:List (List Shape)} {s:Stt} {f:Frm} (h:s.fin=0) (hf:s.fr[0]? =some f) (hn:f.fn≠0):endB m L s=false:=by
 cases e:s.fr with
 |nil=>rw[e] at hf;simp at hf
 |cons g gs=>
  rw[e] at hf
  simp at hf
  subst hf
  simp[endB,h,e,hn]
theorem qG4 {m:Mod} {L:List (List Shape)} {s:Stt} {f:Frm} (h:s.fin=0) (hv:s.val=0) (hf:s.fr[0]? =some f) (hn:f.fn=0):endB m L s=(List.range s.fr.length).all (frameB m L s):=by
 cases e:s.fr with
 |nil=>rw[e] at hf;simp at hf
 |cons g gs=>
  rw[e] at hf
  simp at hf
  subst hf
  simp[endB,h,hv,e,hn]
theorem qC1 {m:Mod} {L:List (List Shape)} {s:Stt} {k:Nat} (hk:k<s.fr.length) (h:frameB m L s k=false):(List.range s.fr.length).all (frameB m L s)=false:=by
 rw[List.all_eq_false]
 exact⟨k,List.mem_range.2 hk,by simp[h]⟩
theorem qD9 {m:Mod} {L:List (List Shape)} {s:Stt} (h:∀k,k<s.fr.length→frameB m L s k=true):(List.range s.fr.length).all (frameB m L s)=true:=by
 rw[List.all_eq_true]
 exact fun k hk=>h k (List.mem_range.1 hk)
theorem qEJ {m:Mod} {L:List (List Shape)} (hc:checkN m=0) (hL:RightM m L) {f p:Nat} {fn:Fn} {l:List Shape} {u:List Typ} {i:Ins} (hf:m.funcs[f]? =some fn) (hl:L[f]? =some l) (hp:l[p]? =some (true,u)) (hi:fn.code[p]? =some i) (h25:i.1=25):
 ∃(g:Nat) (h:Fn),i.2.1=(g:Int)∧i.2.2=0∧m.funcs[g]? =some h∧h.args.length≤u.length:=by
 have hmem:=qAk hf
 obtain⟨-,-,-,hcode⟩:=qBf hc hmem
 obtain⟨hg,-⟩:=hcode i (qAk hi)
 obtain⟨o,a,b⟩:=i
 simp only at h25
 subst h25
 obtain⟨o1,a1,b1,e1,e2,e3,-,-,-,-,-,hb⟩:=qBF (op:=25) (a:=a) (b:=b) hg
 have hb0:b1=0:=hb zB
 subst e2 e3 hb0
 obtain⟨hll,-,hr⟩:=hL.at_ f fn l hf hl
 have hpl:p<fn.code.length:=(qAh.1 hi).1
 obtain⟨i',t,ks,h1,h2,-⟩:=hr.at_ p hpl u (qBk hp)
 rw[hi] at h1
 injection h1 with h1
 subst h1
 refine⟨a1,?_⟩
 have hrule:ruleB m fn (25,(a1:Int),((0:Nat):Int)) u=(match m.funcs[a1]? with|some g=>some (g.args,[g.ret])|none=>none):=by
  simp[ruleB]
  cases m.funcs[a1]? <;>rfl
 unfold insB8 at h2
 rw[hrule] at h2
 cases hg:m.funcs[a1]? with
 |none=>rw[hg] at h2;simp at h2
 |some h=>
  rw[hg] at h2
  refine⟨h,rfl,rfl,rfl,?_⟩
  simp only at h2
  by_cases hle:h.args.length≤u.length
  · exact hle
  · have:movB u h.args [h.ret]=none:=by simp[movB,hle]
    rw[this] at h2
    simp at h2
theorem qDV {m:Mod} {L:List (List Shape)} (hL:RightM m L) {f pc:Int} {u:List Typ} (h:atB L f pc=some u):
 ∃(j p:Nat) (fn:Fn) (l:List Shape) (i:Ins),f=(j:Int)∧pc=(p:Int)∧m.funcs[j]? =some fn∧L[j]? =some l∧l[p]? =some (true,u)∧fn.code[p]? =some i∧u.length≤8:=by
 unfold atB at h
 split at h
 · cases h
 rename_i hn
 cases hl:L[f.toNat]? with
 |none=>rw[hl] at h;cases h
 |some l=>
  rw[hl] at h
  simp only at h
  split at h
  · rename_i s hs
    injection h with h
    subst h
    have hj:f.toNat<m.funcs.length:=by rw[←hL.len];exact(qAh.1 hl).1
    have hf:m.funcs[f.toNat]? =some (m.funcs[f.toNat]):=qAa hj
    obtain⟨hll,h8,-⟩:=hL.at_ _ _ l hf hl
    have hp:pc.toNat<(m.funcs[f.toNat]).code.length:=by rw[←hll];exact(qAh.1 hs).1
    exact⟨f.toNat,pc.toNat,_,l,_,by omega,by omega,hf,hl,hs,qAa hp,h8 _ (qAk hs)⟩
  · cases h
theorem qEo {m:Mod} {L:List (List Shape)} {f p:Nat} {fn:Fn} {l:List Shape} {u:List Typ} {i:Ins} {g:Int} (hf:m.funcs[f]? =some fn) (hl:L[f]? =some l) (hp:l[p]? =some (true,u)) (hi:fn.code[p]? =some i):
 belowB m L (f:Int) ((p:Int)+1) g=if i.1=25∧i.2.1=g then (match m.funcs[g.toNat]? with|none=>none|some h=>some (u.take (u.length-h.args.length))) else none:=by
 unfold belowB
 rw[show((p:Int)+1-1)=(p:Int) by omega,qDK hl hp]
 simp[hf,hi]
 try(split<;>first|rfl|(cases m.funcs[g.toNat]? <;>rfl))
theorem qDT {m:Mod} {L:List (List Shape)} {f pc g:Int} (h:atB L f (pc-1)=none):belowB m L f pc g=none:=by simp[belowB,h]
theorem qDa {m:Mod} {L:List (List Shape)} {s:Stt} {k:Nat} {f:Frm} (hf:s.fr[k]? =some f) (hk:s.fr.length=k+1):stackB m L s k=atB L f.fn f.pc:=by
 have:s.fr[k+1]? =none:=List.getElem?_eq_none (by omega)
 simp only[stackB,hf,this]
 cases atB L f.fn f.pc<;>rfl
theorem qBz {m:Mod} {L:List (List Shape)} {s:Stt} {k:Nat} {f:Frm} (hf:s.fr[k]? =some f) (h:atB L f.fn f.pc=none):stackB m L s k=none:=by simp[stackB,hf,h]
theorem qDZ {m:Mod} {L:List (List Shape)} {s:Stt} {k:Nat} {f g:Frm} {u:List Typ} (hf:s.fr[k]? =some f) (hg:s.fr[k+1]? =some g) (h:atB L f.fn f.pc=some u):stackB m L s k=belowB m L f.fn f.pc g.fn:=by simp[stackB,hf,hg,h]
theorem qDQ {m:Mod} {L:List (List Shape)} {s:Stt} {k:Nat} {f:Frm} (hf:s.fr[k]? =some f) (h:stackB m L s k=none):frameB m L s k=false:=by simp[frameB,hf,h]
theorem qC9 {m:Mod} {L:List (List Shape)} {s:Stt} {k:Nat} {f:Frm} {ts:List Typ} {fn:Fn} (hf:s.fr[k]? =some f) (h:stackB m L s k=some ts) (hfn:m.funcs[f.fn.toNat]? =some fn):frameB m L s k=(allB s f.stk ts && allB s f.locs (fn.args++fn.locs)):=by
 simp[frameB,hf,h,hfn]
theorem qEA {m:Mod} {L:List (List Shape)} {s:Stt} {k:Nat} {f:Frm} {ts:List Typ} (hf:s.fr[k]? =some f) (h:stackB m L s k=some ts) (ha:allB s f.stk ts=false):frameB m L s k=false:=by
 simp[frameB,hf,h,ha]
theorem qEx {m:Mod} {L:List (List Shape)} {s:Stt} {k:Nat} {f:Frm} {ts:List Typ} (hf:s.fr[k]? =some f) (h:stackB m L s k=some ts):∃u,atB L f.fn f.pc=some u:=by
 cases e:atB L f.fn f.pc with
 |some u=>exact⟨u,rfl⟩
 |none=>rw[qBz hf e] at h;cases h
theorem qCU (m n:Int) (w:World):Calls Tryz.prog 20 #[.int .i64 m,.int .i64 n] w fun e w'=>e= .returned (.bool (decide (0≤n∧n≤m)))∧w'=w:=by
 by_cases h0:0≤n
 all_goals by_cases h1:n≤m
 all_goals
  go_enter Tryz.func20,Tryz.ntmps20
  go_wp2_with fail
  go_ret
  exact⟨by simp[h0,h1],rfl⟩
theorem qIS (m n:Int) (w:World):Calls Tryz.prog 20 #[.int .i64 m,.int .i64 n] w (Tells (decide (0≤n∧n≤m)) w):=(qCU m n w).mono fun e w' h=>⟨h.1,by rw[h.2];exact qAe _ _⟩
theorem qBS (x:Hnd) (w:World) (cs:List Value) (hr:hdL.R (·<w.heap.size) w cs x):Calls Tryz.prog 32 #[vAgg cs] w (Tells (!handB x) w):=by
 obtain⟨rfl,-,-⟩:=hr
 show Calls Tryz.prog 32 #[.agg #[.int .i64 x.kind,.int .u64 (x.desc:Int),.bool x.opn]] w (Tells (!handB x) w)
 have HC:Hid (∀w1,Calls Tryz.prog 20 #[.int .i64 3,.int .i64 x.kind] w1 (Tells (handB x) w1)):=fun w1=>qIS 3 x.kind w1
 generalize handB x=gd at*
 generalize x.kind=q1 at*
 generalize x.desc=q2 at*
 generalize x.opn=q3 at*
 have HB0:Hid (∀o:Obj,Below w.heap.size w (w.alloc o)):=fun o=>(qAe _ _).alloc (qAf _) _
 go_enter Tryz.func32,Tryz.ntmps32
 go_wp2_with (first|(go_at_call 20;refine(HC.out _).mono ?_;rintro e w1 ⟨rfl,hb⟩;have HB:=qAZ ((HB0.out _).trans (hb.mono (by simp)));clear hb))
 go_ret
 exact⟨rfl,HB.out⟩
theorem qEk (s:Stt):countB s=(decide (0≤s.quota∧s.quota≤65536) && decide (0≤s.used∧s.used≤s.quota) && decide (0≤s.fin∧s.fin≤7) && !decide (8<s.fr.length) && !decide (4096<s.hp.length) && !decide (16<s.hn.length)):=by
 rw[Bool.eq_iff_iff]
 simp only[countB,Bool.and_eq_true,decide_eq_true_eq,Bool.not_eq_true',decide_eq_false_iff_not]
 omega
theorem qDh (cs:List Value) (s:Stt) (w:World) (h:stL.R (·<w.heap.size) w cs s):Calls Tryz.prog 28 #[vAgg cs] w (Tells (!countB s) w):=by
 obtain⟨A0,c0,A1,c1,A2,c2,rfl,k0,k0',k1,k1',k2,k2',-,-,-,-,-,-,-⟩:=qBh h
 unfold maxLen at k0' k1' k2'
 have T0:Hid (∀w1,Calls Tryz.prog 20 #[.int .i64 65536,.int .i64 s.quota] w1 fun e w'=>e= .returned (.bool (decide (0≤s.quota∧s.quota≤65536)))∧w'=w1):=fun w1=>qCU _ _ w1
 have T1:Hid (∀w1,Calls Tryz.prog 20 #[.int .i64 s.quota,.int .i64 s.used] w1 fun e w'=>e= .returned (.bool (decide (0≤s.used∧s.used≤s.quota)))∧w'=w1):=fun w1=>qCU _ _ w1
 have T2:Hid (∀w1,Calls Tryz.prog 20 #[.int .i64 7,.int .i64 s.fin] w1 fun e w'=>e= .returned (.bool (decide (0≤s.fin∧s.fin≤7)))∧w'=w1):=fun w1=>qCU _ _ w1
 show Calls Tryz.prog 28 #[.agg #[.slice A0 s.fr.length c0,.slice A1 s.hp.length c1,.slice A2 s.hn.length c2,.int .i64 s.quota,.int .i64 s.used,.int .i64 s.fin,.int .u64 (s.val:Int)]] w (Tells (!countB s) w)
 rw[qEk]
 clear h k0 k0' k1 k1' k2 k2'
 have i0:∀n m:Nat,decide (n<m)=decide ((n:Int)<(m:Int)):=fun n m=>by rw[Bool.eq_iff_iff];simp
 rw[i0,i0,i0]
 clear i0
 generalize s.fr.length=n0 at*
 generalize s.hp.length=n1 at*
 generalize s.hn.length=n2 at*
 generalize decide (0≤s.quota∧s.quota≤65536)=b0 at*
 generalize decide (0≤s.used∧s.used≤s.quota)=b1 at*
 generalize decide (0≤s.fin∧s.fin≤7)=b2 at*
 generalize s.quota=q1 at*
 generalize s.used=q2 at*
 generalize s.fin=q3 at*
 generalize (s.val:Int)=q4 at*
 have HB0:Hid (∀o:Obj,Below w.heap.size w (w.alloc o)):=fun o=>(qAe _ _).alloc (qAf _) _
 rcases b0 with _|_
 rotate_left
 rcases b1 with _|_
 rotate_left
 rcases b2 with _|_
 rotate_left
 by_cases g0:(8:Int)<(n0:Int)
 rotate_left
 by_cases g1:(4096:Int)<(n1:Int)
 rotate_left
 by_cases g2:(16:Int)<(n2:Int)
 all_goals
  go_enter Tryz.func28,Tryz.ntmps28
  go_wp2_with (first
   |(go_at_call 20;(with_reducible refine(T2.out _).mono ?_);rintro e w1 ⟨rfl,rfl⟩)
   |(go_at_call 20;(with_reducible refine(T0.out _).mono ?_);rintro e w1 ⟨rfl,rfl⟩)
   |(go_at_call 20;(with_reducible refine(T1.out _).mono ?_);rintro e w1 ⟨rfl,rfl⟩))
  go_ret
  exact⟨by simp[*],HB0.out _⟩
def AtIs (o:Option (List Typ)) (B:Nat) (w:World) (e:Ending):Prop:=
 match o with
 |none=>e= .returned (.tuple #[.slice none 0 0,.bool false])
 |some ts=>∃A c,e= .returned (.tuple #[.slice A ts.length c,.bool true])∧ts.length≤c∧c≤maxLen∧Sq typL (·<B) w A ts
theorem qEg {S:Nat→Prop} {w:World} {A:Option Addr} {fs:List Fn} (h:Sq fnL S w A fs) {k:Nat} {fn:Fn} (hk:fs[k]? =some fn):
 ∃a P0 c0 P1 c1 P2 c2,A=some a∧S a.block∧w.cell? (a.add (k*5))=some (.slice P0 fn.args.length c0)∧w.cell? ⟨(a.add (k*5)).block,(a.add (k*5)).off+1,none⟩=some (.int .i64 fn.ret.1)∧w.cell? ⟨(a.add (k*5)).block,(a.add (k*5)).off+2,none⟩=some (.int .i64 fn.ret.2)∧
  w.cell? ⟨(a.add (k*5)).block,(a.add (k*5)).off+3,none⟩=some (.slice P1 fn.locs.length c1)∧w.cell? ⟨(a.add (k*5)).block,(a.add (k*5)).off+4,none⟩=some (.slice P2 fn.code.length c2)∧tysL.R S w [.slice P0 fn.args.length c0] fn.args∧tysL.R S w [.slice P1 fn.locs.length c1] fn.locs∧codL.R S w [.slice P2 fn.code.length c2] fn.code:=by
 obtain⟨a,cs,e,hs,hc,p0,p1,p2,rfl,-,-,⟨P0,c0,e4,q0⟩,⟨P1,c1,e5,q1⟩,⟨P2,c2,e6,q2⟩⟩:=h.at hk
 simp only[List.cons.injEq,and_true] at e4 e5 e6
 subst e4 e5 e6
 have k0:=hc 0 _ rfl
 have k1:=hc 1 _ rfl
 have k2:=hc 2 _ rfl
 have k3:=hc 3 _ rfl
 have k4:=hc 4 _ rfl
 rw[show k*fnL.k+0=k*5 from rfl] at k0
 rw[show k*fnL.k+1=k*5+1 from rfl,qAl a (k*5) 1 (by omega)] at k1
 rw[show k*fnL.k+2=k*5+2 from rfl,qAl a (k*5) 2 (by omega)] at k2
 rw[show k*fnL.k+3=k*5+3 from rfl,qAl a (k*5) 3 (by omega)] at k3
 rw[show k*fnL.k+4=k*5+4 from rfl,qAl a (k*5) 4 (by omega)] at k4
 exact⟨a,P0,c0,P1,c1,P2,c2,e,hs,k0,k1,k2,k3,k4,⟨P0,c0,rfl,q0⟩,⟨P1,c1,rfl,q1⟩,⟨P2,c2,rfl,q2⟩⟩
theorem qAt {w v:World} {p:Addr} {u:Value} (h:w.cell? p=some u) (hb:Below w.heap.size w v):v.cell? p=some u:=(hb.cell (qAn w _ h)).trans h
theorem qDb (D:Option Addr) (n c:Nat) (L:List (List Shape)) (f pc:Int) (w:World) (hl:L.length=n) (hL:Sq rowL (·<w.heap.size) w D L) (hn:n≤9223372036854775807) (hf:I64 f) (hp:I64 pc):
 Calls Tryz.prog 66 #[.slice D n c,.int .i64 f,.int .i64 pc] w fun e w'=>w'=w∧AtIs (atB L f pc) w.heap.size w e:=by
 unfold I64 at hf hp
 have wr:IntKind.i64.wrap ((n:Int)-1)=(n:Int)-1:=by rw[qAv];omega
 have U0:=qAZ (qCU ((n:Int)-1) f w)
 by_cases hin:0≤f∧f<(n:Int)
 rotate_left
 · have HO:Hid (atB L f pc=none):=by
    show _=_
    by_cases h0:f<0
    · exact qDL (.inl h0)
    · exact qG7 (by omega)
   rw[decide_eq_false (by omega:¬(0≤f∧f≤(n:Int)-1))] at U0
   clear hin hL hl
   go_enter Tryz.func66,Tryz.ntmps66
   go_wp2_with (first|(go_at_call 20;(with_reducible refine U0.out.mono ?_);rintro e w1 ⟨rfl,rfl⟩))
   go_ret2
   rw[HO.out]
   exact⟨rfl,rfl⟩
 rw[decide_eq_true (by omega:(0≤f∧f≤(n:Int)-1))] at U0
 obtain⟨j,rfl⟩:∃j:Nat,f=(j:Int):=⟨f.toNat,by omega⟩
 obtain⟨l,hx⟩:∃l,L[j]? =some l:=⟨L[j]'(by omega),qAa _⟩
 obtain⟨a,E,ce,rfl,hab,q0,hle,hcm,hsq⟩:=qCi hL hx
 obtain⟨ul,hul⟩:∃ul,l.length=ul:=⟨_,rfl⟩
 rw[hul] at q0 hle
 unfold maxLen at hcm
 have wr2:IntKind.i64.wrap ((ul:Int)-1)=(ul:Int)-1:=by rw[qAv];omega
 have U1:=qAZ (qCU ((ul:Int)-1) pc w)
 have j0:(0:Int)≤(j:Int):=by omega
 have j1:(j:Int)<(n:Int):=by omega
 by_cases hip:0≤pc∧pc<(ul:Int)
 rotate_left
 · have HO:Hid (atB L (j:Int) pc=none):=by
    show _=_
    by_cases h0:pc<0
    · exact qDL (.inr h0)
    · have:=qF6 (L:=L) (f:=j) (pc:=pc.toNat) hx (by omega)
      rwa [show((pc.toNat:Nat):Int)=pc by omega] at this
   rw[decide_eq_false (by omega:¬(0≤pc∧pc≤(ul:Int)-1))] at U1
   clear hin hip hL hl hx hsq
   go_enter Tryz.func66,Tryz.ntmps66
   go_wp2_with (first
    |(go_at_call 20;(with_reducible refine U0.out.mono ?_);rintro e w1 ⟨rfl,rfl⟩)
    |(go_at_call 20;(with_reducible refine U1.out.mono ?_);rintro e w1 ⟨rfl,rfl⟩))
   go_ret2
   rw[HO.out]
   exact⟨rfl,rfl⟩
 rw[decide_eq_true (by omega:(0≤pc∧pc≤(ul:Int)-1))] at U1
 obtain⟨p,rfl⟩:∃p:Nat,pc=(p:Int):=⟨pc.toNat,by omega⟩
 obtain⟨⟨sb,u⟩,hy⟩:∃y,l[p]? =some y:=⟨l[p]'(by omega),qAa _⟩
 obtain⟨aE,G,g,rfl,hgb,r0,r1,gle,gcm,-,gsq⟩:=qCV hsq hy
 simp only at r0 r1 gle gsq
 have HO:=qAZ (qDK hx hy)
 have p0:(0:Int)≤(p:Int):=by omega
 have p1:(p:Int)<(ul:Int):=by omega
 have HG:Hid (u.length≤g∧g≤maxLen∧Sq typL (·<w.heap.size) w G u):=⟨gle,gcm,gsq⟩
 clear hin hip hL hl hx hsq hy gle gcm gsq
 obtain⟨k,hk⟩:∃k,u.length=k:=⟨_,rfl⟩
 have HK:=qAZ hk
 rw[hk] at r1 HG
 clear hk
 cases sb
 all_goals
  go_enter Tryz.func66,Tryz.ntmps66
  go_wp2_with (first
   |(go_at_call 20;(with_reducible refine U0.out.mono ?_);rintro e w1 ⟨rfl,rfl⟩)
   |(go_at_call 20;(with_reducible refine U1.out.mono ?_);rintro e w1 ⟨rfl,rfl⟩))
  go_ret2
  rw[HO.out]
 · exact⟨rfl,rfl⟩
 · refine⟨rfl,G,g,?_⟩
   rw[HK.out]
   exact⟨rfl,HG.out⟩
theorem qD0 (A0 A1 A2 A3 A4 D B0 B1:Option Addr) (n0 n1 n2 n3 n4 d0 d1 d2 d3 d4 n c e0 e1:Nat) (m:Mod) (L:List (List Shape)) (f:Frm) (g:Int) (w:World) (h:modL.R (·<w.heap.size) w [.slice A0 n0 d0,.slice A1 n1 d1,.slice A2 n2 d2,.slice A3 n3 d3,.slice A4 n4 d4] m) (hc:checkN m=0) (hL:RightM m L)
 (hl:L.length=n) (hS:Sq rowL (·<w.heap.size) w D L) (hn:n≤9223372036854775807) (hf:I64 f.fn) (hp:I64 f.pc) (hp0:0≤f.pc) (hg:I64 g):
 Calls Tryz.prog 67 #[.agg #[.slice A0 n0 d0,.slice A1 n1 d1,.slice A2 n2 d2,.slice A3 n3 d3,.slice A4 n4 d4],.slice D n c,.agg #[.int .i64 f.fn,.int .i64 f.pc,.slice B0 f.locs.length e0,.slice B1 f.stk.length e1],.int .i64 g] w fun e w'=>Below w.heap.size w w'∧AtIs (belowB m L f.fn f.pc g) w'.heap.size w' e:=by
 unfold I64 at hf hp hg
 have wr:IntKind.i64.wrap (f.pc-1)=f.pc-1:=by rw[qAv];omega
 have SA:Hid (∀w1,Below w.heap.size w w1→Calls Tryz.prog 66 #[.slice D n c,.int .i64 f.fn,.int .i64 (f.pc-1)] w1 fun e w'=>w'=w1∧AtIs (atB L f.fn (f.pc-1)) w1.heap.size w1 e):=fun w1 hb=>
  qDb D n c L f.fn (f.pc-1) w1 hl (qBD hS hb) hn hf ⟨by omega,by omega⟩
 have HBB:Hid (∀o1 o2:Obj,Below w.heap.size w ((w.alloc o1).alloc o2)):=fun o1 o2=>((qAe _ _).alloc (qAf _) _).alloc (by simp) _
 obtain⟨b0,hb0⟩:∃b0,f.locs.length=b0:=⟨_,rfl⟩
 obtain⟨b1,hb1⟩:∃b1,f.stk.length=b1:=⟨_,rfl⟩
 rw[hb0,hb1]
 clear hb0 hb1
 cases hat:atB L f.fn (f.pc-1) with
 |none=>
  have HO:=qAZ (qDT (m:=m) (g:=g) hat)
  rw[hat] at SA
  clear h hc hL hl hS hat
  generalize belowB m L f.fn f.pc g=o at*
  generalize f.fn=ff at*
  generalize f.pc=fp at*
  go_enter Tryz.func67,Tryz.ntmps67
  go_wp2_with (first
   |(go_at_call 66
     refine(SA.out _ (HBB.out _ _)).mono ?_
     rintro e w1 ⟨rfl,rfl⟩))
  go_quiet (fail)
  go_wp2_with fail
  go_ret2
  rw[HO.out]
  exact⟨(HBB.out _ _).trans ((qA7 _ _).mono qf),rfl⟩
 |some u=>
  obtain⟨j,p,fn,l,i,hj,hpp,hfn,hlr,hlp,hi,hu8⟩:=qDV hL hat
  have hp1:f.pc=(p:Int)+1:=by omega
  have HO:=qAZ (qEo (m:=m) (g:=g) hfn hlr hlp hi)
  have HCT:=qAZ (fun h25=>qEJ hc hL hfn hlr hlp hi h25)
  obtain⟨_,_,_,_,_,ex,q0,⟨A1',d1',ex1,l1,m1,s1⟩,q2,q3,q4⟩:=h
  simp only[List.cons.injEq,and_true] at ex
  obtain⟨rfl,rfl,rfl,rfl,rfl⟩:=ex
  simp only[List.cons.injEq,Value.slice.injEq,and_true] at ex1
  obtain⟨rfl,h1,rfl⟩:=ex1
  obtain⟨a,P0,c0,P1,c1,P2,c2,rfl,hab,k0,k1,k2,k3,k4,t0,t1,t2⟩:=qEg s1 hfn
  obtain⟨_,_,et,-,-,sc⟩:=t2
  simp only[List.cons.injEq,Value.slice.injEq,and_true] at et
  obtain⟨rfl,-,rfl⟩:=et
  obtain⟨ac,csc,rfl,hacb,hcc,rfl,-⟩:=sc.at hi
  have w0:=hcc 0 _ rfl
  have w1:=hcc 1 _ rfl
  have w2:=hcc 2 _ rfl
  rw[show p*insL.k+0=p*3 from rfl] at w0
  rw[show p*insL.k+1=p*3+1 from rfl,qAl ac (p*3) 1 (by omega)] at w1
  rw[show p*insL.k+2=p*3+2 from rfl,qAl ac (p*3) 2 (by omega)] at w2
  have hjn:j<n1:=by rw[h1];exact(qAh.1 hfn).1
  have hpn:p<fn.code.length:=(qAh.1 hi).1
  obtain⟨o,x,y⟩:=i
  simp only at w0 w1 w2 HO HCT
  have z0:=fun o1 o2=>qAt w0 (HBB.out o1 o2)
  have z1:=fun o1 o2=>qAt w1 (HBB.out o1 o2)
  have z2:=fun o1 o2=>qAt w2 (HBB.out o1 o2)
  have z4:=fun o1 o2=>qAt k4 (HBB.out o1 o2)
  have hj0:(0:Int)≤(j:Int):=by omega
  have hj1:(j:Int)<(n1:Int):=by omega
  have hp00:(0:Int)≤(p:Int):=by omega
  have hp01:(p:Int)<(fn.code.length:Int):=by omega
  have wr2:IntKind.i64.wrap ((p:Int)+1-1)=(p:Int):=by rw[qAv];omega
  have wr3:IntKind.i64.wrap (p:Int)=(p:Int):=by rw[qAv];omega
  rw[hat] at SA
  rw[hj,hp1,show(p:Int)+1-1=(p:Int) by omega] at SA
  rw[hj,hp1]
  by_cases hq:o=25∧x=g∧y=0
  rotate_left
  · have HO2:Hid (belowB m L (j:Int) ((p:Int)+1) g=none):=by
     show _=_
     rw[HO.out]
     by_cases h25:o=25∧x=g
     · obtain⟨g',h',-,hy,-⟩:=HCT.out h25.1
       exact absurd ⟨h25.1,h25.2,hy⟩ hq
     · rw[if_neg h25]
    clear hL hl hS hat hfn hlr hlp hi q0 q2 q3 q4 s1 sc hcc hc hj hp1 hpp t0 t1 w0 w1 w2 k0 k1 k2 k3 k4 HCT HO hf hp hp0 h1 l1 m1
    generalize belowB m L (j:Int) ((p:Int)+1) g=ob at*
    generalize fn.code.length=nc at*
    have nq:∀w,(binOp .neq 65 (.agg #[.int .i64 o,.int .i64 x,.int .i64 y]) (.agg #[.int .i64 25,.int .i64 g,.int .i64 0])).run Tryz.prog w= .ok (.bool true) w:=by
     intro w
     go_simp
     exact fun a b c=>hq ⟨a,b,c⟩
    go_enter Tryz.func67,Tryz.ntmps67
    go_wp2_with (first
     |(go_at_call 66
       (with_reducible refine(SA.out _ (HBB.out _ _)).mono ?_)
       rintro e w1 ⟨rfl,B,bc,rfl,b3,b4,b5⟩))
    go_quiet (fail)
    go_wp2_with fail
    all_goals
     go_ret2
     rw[HO2.out]
     exact⟨(HBB.out _ _).trans ((qA7 _ _).mono qf),rfl⟩
  obtain⟨rfl,rfl,rfl⟩:=hq
  obtain⟨gn,h',rfl,-,hgf,hle⟩:=HCT.out rfl
  rw[if_pos ⟨rfl,rfl⟩] at HO
  simp only[Int.toNat_natCast,hgf] at HO
  obtain⟨a',Q0,e0',Q1,e1',Q2,e2',ea',-,r0,-,-,-,-,⟨_,_,et,v1,v2,-⟩,-,-⟩:=qEg s1 hgf
  injection ea' with ea'
  subst ea'
  simp only[List.cons.injEq,Value.slice.injEq,and_true] at et
  obtain⟨rfl,-,rfl⟩:=et
  have hgn:gn<n1:=by rw[h1];exact(qAh.1 hgf).1
  have zg:=fun o1 o2=>qAt r0 (HBB.out o1 o2)
  have hg0:(0:Int)≤(gn:Int):=by omega
  have hg1:(gn:Int)<(n1:Int):=by omega
  obtain⟨na,hna⟩:∃na,h'.args.length=na:=⟨_,rfl⟩
  obtain⟨nu,hnu⟩:∃nu,u.length=nu:=⟨_,rfl⟩
  obtain⟨q,hq⟩:∃q,nu=na+q:=⟨nu-na,by omega⟩
  have HNU:=qAZ hnu
  have HQ:=qAZ hq
  have HNA:=qAZ hna
  rw[hna] at zg
  rw[hna,hnu] at HO hle
  have e1w:IntKind.i64.wrap ((nu:Int)-(na:Int))=(q:Int):=by rw[qAv];omega
  rw[show nu-na=q by omega] at HO
  clear hL hl hS hat hfn hlr hlp hi q0 q2 q3 q4 s1 sc hcc hc hj hp1 hpp t0 t1 w0 w1 w2 k0 k1 k2 k3 k4 HCT hf hp hp0 hgf r0 hna h1 l1 m1 hq
  have SA2:Hid (∀w1,Below w.heap.size w w1→Calls Tryz.prog 66 #[.slice D n c,.int .i64 (j:Int),.int .i64 (p:Int)] w1 fun e w'=>w'=w1∧∃B bc,e= .returned (.tuple #[.slice B nu bc,.bool true])∧nu≤bc∧bc≤maxLen∧Sq typL (·<w1.heap.size) w1 B u):=fun w1 hb=>(SA.out w1 hb).mono fun e w' qq=>⟨qq.1,by obtain⟨B,bc,h1,h2⟩:=qq.2;rw[hnu] at h1 h2;exact⟨B,bc,h1,h2⟩⟩
  clear SA hnu
  generalize belowB m L (j:Int) ((p:Int)+1) (gn:Int)=ob at*
  generalize fn.code.length=nc at*
  go_enter Tryz.func67,Tryz.ntmps67
  go_wp2_with (first
   |(go_at_call 66
     (with_reducible refine(SA2.out _ (HBB.out _ _)).mono ?_)
     rintro e w1 ⟨rfl,B,bc,rfl,b3,b4,b5⟩
     have HB5:=qAZ b5
     have b6:(q:Int)≤(bc:Int):=(by have:=HQ.out;omega)
     have HB4:=qAZ b4
     clear b5 b4))
  go_quiet (fail)
  go_wp2_with fail
  go_ret2
  refine⟨(HBB.out _ _).trans ((qA7 _ _).mono qf),?_⟩
  rw[HO.out]
  have hlen:(u.take q).length=q:=by rw[List.length_take,HNU.out,HQ.out];omega
  refine⟨B,bc,by rw[hlen];rfl,by rw[hlen];omega,HB4.out,?_⟩
  exact(HB5.out.take q).keep fun _ _=>rfl
theorem qB1 (Q:Nat) (A0 A1 A2:Option Addr) (n0 c0 n1 c1 n2 c2:Nat) (v3 v4 v5 v6:Value) (s:Stt) (x:Nat) (y:Typ) (w:World) (hQ:C7 Q (.slice A0 n0 c0) (.slice A1 n1 c1) (.slice A2 n2 c2) v3 v4 v5 v6 w) (h1:s.hp.length=n1) (h2:s.hn.length=n2)
 (hp:Sq obL (·<w.heap.size) w A1 s.hp) (hn:Sq hdL (·<w.heap.size) w A2 s.hn) (b1:n1≤9223372036854775807) (b2:n2≤9223372036854775807) (hx:x<B64) (y1:I64 y.1) (y2:I64 y.2):
 Calls Tryz.prog 60 #[.int .u64 (x:Int),.agg #[.int .i64 y.1,.int .i64 y.2],.pointer (some ⟨Q,0,none⟩)] w (Tells (hasT s x y) w):=by
 have HB0:Hid (∀o:Obj,Below w.heap.size w (w.alloc o)):=fun o=>(qAe _ _).alloc (qAf _) _
 have hQb:=qAn w _ hQ.1
 simp only at hQb
 unfold B64 at hx
 have q1:∀o,(w.alloc o).cell? ⟨Q,1,none⟩=some (.slice A1 n1 c1):=fun o=>((HB0.out o).cell (p:=⟨Q,1,none⟩) hQb).trans hQ.2.1
 have q2:∀o,(w.alloc o).cell? ⟨Q,2,none⟩=some (.slice A2 n2 c2):=fun o=>((HB0.out o).cell (p:=⟨Q,2,none⟩) hQb).trans hQ.2.2.1
 by_cases e1:y.1=1
 · have HT:=qAZ (qDI (s:=s) (v:=x) (t:=y) (.inl e1))
   have t1:(y.1==1)=true:=by simpa using e1
   clear e1 hp hn hQ
   generalize hasT s x y=g at*
   exact zT
 have t1:(y.1==1)=false:=by simpa using e1
 by_cases e8:y.1=8
 · have HT:=qAZ (qDI (s:=s) (v:=x) (t:=y) (.inr e8))
   have t8:(y.1==8)=true:=by simpa using e8
   clear e1 e8 hp hn hQ
   generalize hasT s x y=g at*
   exact zT
 have t8:(y.1==8)=false:=by simpa using e8
 by_cases e5:y.1=5
 · have t5:(y.1==5)=true:=by simpa using e5
   by_cases hlt:x<n2
   · obtain⟨h,hh⟩:∃h,s.hn[x]? =some h:=⟨s.hn[x]'(by rw[h2];exact hlt),qAa _⟩
     have HT:=qAZ (qFx (s:=s) (v:=x) (t:=y) e5 hh)
     obtain⟨a,cs,rfl,hab,hc,rfl,-⟩:=hn.at hh
     have c0:∀o,(w.alloc o).cell? (a.add (x*3))=some (.int .i64 h.kind):=fun o=>((HB0.out o).cell (p:=a.add (x*3)) qE).trans (hc 0 _ rfl)
     have HD:Hid (decide (h.kind=y.2)=(h.kind==y.2)):=by show _=_;rw[Bool.eq_iff_iff];simp
     have x0:(0:Int)≤(x:Int):=by omega
     have x1:(x:Int)<(n2:Int):=by omega
     clear e1 e8 e5 hp hn hQ hc hh
     generalize hasT s x y=g at*
     generalize y.1=k1 at*
     generalize y.2=k2 at*
     generalize h.kind=k3 at*
     go_enter Tryz.func60,Tryz.ntmps60
     go_wp2_with fail
     go_quiet (fail)
     go_wp2_with fail
     go_ret
     exact⟨by rw[HT.out,HD.out];rfl,(HB0.out _).trans ((qA7 _ _).mono (by simp))⟩
   · have HT:=qAZ (qDd (s:=s) (v:=x) (t:=y) e5 (by omega))
     have x1:¬(x:Int)<(n2:Int):=by omega
     have x2:decide ((x:Int)<(n2:Int))=false:=by simpa using x1
     clear e1 e8 e5 hp hn hQ
     generalize hasT s x y=g at*
     generalize y.1=k1 at*
     generalize y.2=k2 at*
     go_enter Tryz.func60,Tryz.ntmps60
     go_wp2_with fail
     go_quiet (fail)
     go_wp2_with fail
     go_ret
     exact⟨by rw[HT.out];rfl,(HB0.out _).trans ((qA7 _ _).mono (by simp))⟩
 have t5:(y.1==5)=false:=by simpa using e5
 by_cases e6:y.1=6
 · have HT:=qAZ (qEf (s:=s) (v:=x) (t:=y) e6)
   have HD:Hid (decide (x=0)=((x:Int)==0)):=by show _=_;rw[Bool.eq_iff_iff];simp
   have t6:(y.1==6)=true:=by simpa using e6
   clear e1 e8 e5 e6 hp hn hQ
   generalize hasT s x y=g at*
   generalize y.1=k1 at*
   generalize y.2=k2 at*
   go_enter Tryz.func60,Tryz.ntmps60
   go_wp2_with fail
   go_ret
   exact⟨by rw[HT.out,HD.out];rfl,HB0.out _⟩
 have t6:(y.1==6)=false:=by simpa using e6
 by_cases x0:x=0
 · subst x0
   have HT:=qAZ (qEe (s:=s) (t:=y) e5)
   clear e1 e8 e5 e6 hp hn hQ
   generalize hasT s 0 y=g at*
   exact zT
 have tx:((x:Int)==0)=false:=by simp;omega
 by_cases hgt:n1<x
 · have HT:=qAZ (qFw (s:=s) (v:=x) (t:=y) e1 e8 e5 x0 (by omega))
   have g1:(n1:Int)<(x:Int):=by omega
   clear e1 e8 e5 e6 x0 hp hn hQ
   generalize hasT s x y=g at*
   exact zT
 have g1:¬(n1:Int)<(x:Int):=by omega
 obtain⟨z,rfl⟩:∃z,x=z+1:=⟨x-1,by omega⟩
 obtain⟨o,ho⟩:∃o,s.hp[z+1-1]? =some o:=⟨s.hp[z+1-1]'(by omega),qAa _⟩
 have HT:=qAZ (qFv (s:=s) (v:=z+1) (t:=y) e1 e8 e5 x0 e6 ho)
 rw[Nat.add_sub_cancel] at ho
 obtain⟨a,cs,rfl,hab,hc,hR⟩:=hp.at ho
 obtain⟨P0,d0,P1,d1,rfl,-,-,-,-,-,-,-,-,-⟩:=qCB hR
 have c0:∀o',(w.alloc o').cell? (a.add (z*4))=some (.int .i64 o.kind):=fun o'=>((HB0.out o').cell (p:=a.add (z*4)) qE).trans (hc 0 _ rfl)
 have c1:∀o',(w.alloc o').cell? ⟨(a.add (z*4)).block,(a.add (z*4)).off+1,none⟩=some (.int .i64 o.n):=fun o'=>by
  have:=((HB0.out o').cell (p:=a.add (z*4+1)) qE).trans (hc 1 _ rfl)
  rwa [qAl a (z*4) 1 (by omega)] at this
 have c2:∀o',(w.alloc o').cell? ⟨(a.add (z*4)).block,(a.add (z*4)).off+2,none⟩=some (.slice P0 o.words.length d0):=fun o'=>by
  have:=((HB0.out o').cell (p:=a.add (z*4+2)) qE).trans (hc 2 _ rfl)
  rwa [qAl a (z*4) 2 (by omega)] at this
 have c3:∀o',(w.alloc o').cell? ⟨(a.add (z*4)).block,(a.add (z*4)).off+3,none⟩=some (.slice P1 o.bytes.length d1):=fun o'=>by
  have:=((HB0.out o').cell (p:=a.add (z*4+3)) qE).trans (hc 3 _ rfl)
  rwa [qAl a (z*4) 3 (by omega)] at this
 have z0:(0:Int)≤(z:Int):=by omega
 have z1:(z:Int)<(n1:Int):=by omega
 have HBB:Hid (∀o1 o2:Obj,Below w.heap.size w ((w.alloc o1).alloc o2)):=fun o1 o2=>(HB0.out o1).alloc (by simp) _
 have HD:Hid (∀b:Bool,(decide (y.1=7∨y.1=o.kind∧y.2=o.n)=b)↔((y.1==7) || ((y.1==o.kind) && (y.2==o.n)))=b):=by
  intro b
  rw[show decide (y.1=7∨y.1=o.kind∧y.2=o.n)=((y.1==7) || ((y.1==o.kind) && (y.2==o.n))) by rw[Bool.eq_iff_iff];simp]
 clear e1 e8 e5 e6 x0 hp hn hQ hc hR ho hgt
 generalize hasT s (z+1) y=g at*
 generalize y.1=k1 at*
 generalize y.2=k2 at*
 generalize o.kind=k3 at*
 generalize o.n=k4 at*
 generalize o.words.length=k5 at*
 generalize o.bytes.length=k6 at*
 by_cases e7:k1=7
 · subst e7
   go_enter Tryz.func60,Tryz.ntmps60
   go_wp2_with fail
   go_ret
   exact⟨by rw[HT.out];simp,HBB.out _ _⟩
 · have t7:(k1==7)=false:=by simpa using e7
   clear e7
   go_enter Tryz.func60,Tryz.ntmps60
   go_wp2_with fail
   all_goals
    go_ret
    refine⟨?_,HBB.out _ _⟩
    rw[HT.out,(HD.out _).2 rfl,t7]
    first|(simp[*];done)|(simp[*];simpa using t7)
theorem qB9 (v0 v1 v2 v3 v4 v5 v6:Value) (w:World):
 Calls Tryz.prog 30 #[.agg #[v0,v1,v2,v3,v4,v5,v6]] w fun e w'=>
  e= .returned (.func (.func 60) #[] #[.pointer (some ⟨w.heap.size,0,none⟩)])∧Below w.heap.size w w'∧w.heap.size<w'.heap.size∧C7 w.heap.size v0 v1 v2 v3 v4 v5 v6 w':=by
 go_enter Tryz.func30,Tryz.ntmps30
 go_wp2_with fail
 go_ret
 exact⟨rfl,(qAe _ _).alloc (qAf _) _,by simp,by simp[C7,go_sem]⟩
theorem qES (A B:Option Addr) (n m c d:Nat) (xs:List Nat) (ys:List Typ) (g:Nat→Typ→Bool) (p:Addr) (w:World) (hl:xs.length=n) (hm:ys.length=m) (h:Sq numL (·<w.heap.size) w A xs) (h':Sq typL (·<w.heap.size) w B ys) (hn2:n≤9223372036854775807) (hm2:m≤9223372036854775807)
 (hP:∀(w1:World) (x:Nat) (y:Typ),Below w.heap.size w w1→x<B64→I64 y.1→I64 y.2→Calls Tryz.prog 60 #[.int .u64 (x:Int),.agg #[.int .i64 y.1,.int .i64 y.2],.pointer (some p)] w1 (Tells (g x y) w1)):
 Calls Tryz.prog 64 #[.slice A n c,.slice B m d,.func (.func 60) #[] #[.pointer (some p)]] w (Tells (all2 g xs ys) w):=by
 have HL:=qAZ hl
 have HM:=qAZ hm
 have HS:=qAZ h
 have HT:=qAZ h'
 have HP0:=qAZ hP
 clear hl hm h h' hP
 by_cases hnm:n=m
 · subst hnm
   go_enter Tryz.func64,Tryz.ntmps64
   go_wp2_with fail
   go_loopw [17] (fun i wr=>∃k:Nat,k≤n∧i= .int .i64 (k:Nat)∧all2 g (xs.take k) (ys.take k)=true∧Below w.heap.size w wr) (fun i _=>n-(intOf i).toNat)
   case atStart=>exact⟨0,qAs _,rfl,by simp[all2],qAe _ _⟩
   case round=>
    obtain⟨k,hk,rfl,heq,hbel⟩:=hrel
    have HE:=qAZ heq
    have HB:=qAZ hbel
    have hs:=hbel.size
    clear heq hbel
    by_cases hlt:k<n
    · skip
      obtain⟨x,hx⟩:∃x,xs[k]? =some x:=⟨xs[k]'qd,qAa _⟩
      obtain⟨y,hy⟩:∃y,ys[k]? =some y:=⟨ys[k]'jX,qAa _⟩
      obtain⟨a,cs,rfl,hab,hc,hr⟩:=HS.out.at hx
      obtain⟨b,cs2,rfl,hbb,hc2,hr2⟩:=HT.out.at hy
      have HX:=qAZ hx
      have HY:=qAZ hy
      clear hx hy
      obtain⟨rfl,hx64⟩:=hr
      obtain⟨rfl,hy1,hy2⟩:=hr2
      have c0:=(HB.out.cell (p:=a.add k) qE).trans (qBC (K:=numL.k) rfl (hc 0 _ rfl))
      have k0:=(HB.out.cell (p:=b.add (k*2)) qm).trans (hc2 0 _ rfl)
      have k1:=(HB.out.cell (p:=b.add (k*2+1)) qm).trans (hc2 1 _ rfl)
      rw[qAl b (k*2) 1 (by omega)] at k1
      have HP:Hid (∀w1,Below w.heap.size w w1→Calls Tryz.prog 60 #[.int .u64 (x:Int),.agg #[.int .i64 y.1,.int .i64 y.2],.pointer (some p)] w1 (Tells (g x y) w1)):=fun w1 hb=>HP0.out w1 x y hb hx64 hy1 hy2
      clear hc hc2 hy1 hy2
      cases hg:g x y
      all_goals
       rw[hg] at HP
       have HG:=qAZ hg
       clear hg
       go_wp2_with (first
        |(go_at_call 60
          refine(HP.out _ (HB.out.alloc hs _)).mono ?_
          rintro e w2 ⟨rfl,hb2⟩
          have Hb2:=qAZ ((HB.out.alloc hs _).trans (hb2.mono qf))
          clear hb2))
      · go_ret
        exact⟨by rw[qG8 HX.out HY.out HG.out];rfl,Hb2.out⟩
      · refine⟨⟨k+1,by omega,by simp,qEp HE.out HX.out HY.out HG.out,Hb2.out⟩,by simp[intOf];omega⟩
    · obtain rfl:k=n:=by omega
      go_wp2_with fail
      go_ret
      exact⟨by rw[qEq HE.out HL.out HM.out];rfl,HB.out⟩
 · have h1:((n:Int) != (m:Int))=true:=by simp;omega
   have h2:(n != m)=true:=by simpa using hnm
   have HNM:=qAZ hnm
   clear hnm
   go_enter Tryz.func64,Tryz.ntmps64
   go_wp2_with fail
   go_ret
   refine⟨?_,qAe _ _⟩
   rw[qG9 (fun e=>HNM.out jS)]
   rfl
def HasAt (p:Addr) (s:Stt) (w:World):Prop:=∀(w1:World) (x:Nat) (y:Typ),Below w.heap.size w w1→x<B64→I64 y.1→I64 y.2→Calls Tryz.prog 60 #[.int .u64 (x:Int),.agg #[.int .i64 y.1,.int .i64 y.2],.pointer (some p)] w1 (Tells (hasT s x y) w1)
theorem HasAt.low {p:Addr} {s:Stt} {w v:World} (h:HasAt p s w) (hb:Below w.heap.size w v):HasAt p s v:=fun w1 x y h1 hx y1 y2=>h w1 x y (hb.trans (h1.mono hb.size)) hx y1 y2
theorem qFJ {p:Addr} {s:Stt} {w:World} (h:HasAt p s w) (A B:Option Addr) (n m c d:Nat) (xs:List Nat) (ys:List Typ) (hl:xs.length=n) (hm:ys.length=m) (hA:Sq numL (·<w.heap.size) w A xs) (hB:Sq typL (·<w.heap.size) w B ys) (hn2:n≤9223372036854775807) (hm2:m≤9223372036854775807):
 Calls Tryz.prog 64 #[.slice A n c,.slice B m d,.func (.func 60) #[] #[.pointer (some p)]] w (Tells (allB s xs ys) w):=
 qES A B n m c d xs ys (hasT s) p w hl hm hA hB hn2 hm2 fun w1 x y hb hx y1 y2=>h w1 x y hb hx y1 y2
theorem qBa (v0 v1 v2 v3 v4:Value) (caps:Array Value) (w:World):
 Calls Tryz.prog 34 #[.agg #[v0,v1,v2,v3,v4],.func (.func 60) #[] caps] w fun e w'=>
  e= .returned (.func (.func 63) #[] #[.pointer (some ⟨w.heap.size,0,none⟩),.pointer (some ⟨w.heap.size+1,0,none⟩)])∧Below w.heap.size w w'∧w.heap.size+1<w'.heap.size∧C5 w.heap.size v0 v1 v2 v3 v4 w'∧w'.cell? ⟨w.heap.size+1,0,none⟩=some (.func (.func 60) #[] caps):=by
 go_enter Tryz.func34,Tryz.ntmps34
 go_wp2_with fail
 go_ret
 exact⟨rfl,((qAe _ _).alloc (qAf _) _).alloc (by simp) _,by simp,by simp[C5,go_sem],by simp[go_sem]⟩
theorem qCk {m:Mod} {s:Stt} {o:Ob} (h:o.kind=2):objB m s o=decide (o.n=0∧o.words.length=0∧o.bytes.length≤64):=by simp[objB,h]
theorem qCA {m:Mod} {s:Stt} {o:Ob} (h:o.kind=3):objB m s o=decide (o.n=0∧o.words.length≤64∧o.bytes.length=0):=by simp[objB,h]
theorem qEZ {m:Mod} {s:Stt} {o:Ob} (h2:o.kind≠2) (h3:o.kind≠3) (h4:o.kind≠4):objB m s o=false:=by simp[objB,h2,h3,h4]
theorem qFi {m:Mod} {s:Stt} {o:Ob} (h:o.kind=4) (hn:¬(0≤o.n∧o.n<(m.recs.length:Int))):objB m s o=false:=by
 by_cases h0:o.n<0
 · simp[objB,h,h0]
 · have:m.recs[o.n.toNat]? =none:=List.getElem?_eq_none (by omega)
   simp[objB,h,h0,this]
theorem qFh {m:Mod} {s:Stt} {o:Ob} {k:Nat} {r:List Typ} (h:o.kind=4) (hn:o.n=(k:Int)) (hr:m.recs[k]? =some r):objB m s o=(decide (o.bytes.length=0) && allB s o.words r):=by
 have h0:¬(k:Int)<0:=by omega
 simp[objB,h,hn,hr,h0]
theorem qBR (PM PH:Nat) (hp:Addr) (A0:Option Addr) (n0 d0:Nat) (v1 v2 v3 v4:Value) (m:Mod) (s:Stt) (o:Ob) (w:World) (cs:List Value) (hr:obL.R (·<w.heap.size) w cs o) (h0:m.recs.length=n0) (hn0:n0≤9223372036854775807) (hR:Sq tysL (·<w.heap.size) w A0 m.recs)
 (hM:C5 PM (.slice A0 n0 d0) v1 v2 v3 v4 w) (hH:w.cell? ⟨PH,0,none⟩=some (.func (.func 60) #[] #[.pointer (some hp)])) (hs:HasAt hp s w):
 Calls Tryz.prog 63 #[vAgg cs,.pointer (some ⟨PM,0,none⟩),.pointer (some ⟨PH,0,none⟩)] w (Tells (!objB m s o) w):=by
 obtain⟨P0,e0,P1,e1,rfl,l0,l0',l1,l1',sW,sB,-,i1,i2⟩:=qCB hr
 have hMb:=qAn w _ hM.1
 have hHb:=qAn w _ hH
 simp only at hMb hHb
 unfold maxLen at l0' l1'
 obtain⟨a,ea⟩:∃a,o.words.length=a:=⟨_,rfl⟩
 obtain⟨b,eb⟩:∃b,o.bytes.length=b:=⟨_,rfl⟩
 show Calls Tryz.prog 63 #[.agg #[.int .i64 o.kind,.int .i64 o.n,.slice P0 o.words.length e0,.slice P1 o.bytes.length e1],.pointer (some ⟨PM,0,none⟩),.pointer (some ⟨PH,0,none⟩)] w (Tells (!objB m s o) w)
 have HB0:Hid (∀ob:Obj,Below w.heap.size w (w.alloc ob)):=fun ob=>(qAe _ _).alloc (qAf _) _
 by_cases e2:o.kind=2
 · have HO:=qAZ (qCk (m:=m) (s:=s) e2)
   rw[ea,eb] at HO⊢
   have t2:(o.kind==2)=true:=by simpa using e2
   clear e2 hM hH hR hs hr sW sB h0 l0 l0' l1 l1' ea eb
   generalize objB m s o=g at*
   generalize o.kind=kk at*
   generalize o.n=nn at*
   by_cases f0:nn=0
   rotate_left
   · exact jc
   subst f0
   by_cases f1:0<a
   · have t1:(0:Int)<(a:Int):=by omega
     exact zA
   obtain rfl:a=0:=by omega
   by_cases f2:64<b
   · have t1:(64:Int)<(b:Int):=by omega
     exact zA
   · have t1:¬(64:Int)<(b:Int):=by omega
     exact zA
 have t2:(o.kind==2)=false:=by simpa using e2
 by_cases e3:o.kind=3
 · have HO:=qAZ (qCA (m:=m) (s:=s) e3)
   rw[ea,eb] at HO⊢
   have t3:(o.kind==3)=true:=by simpa using e3
   clear e2 e3 hM hH hR hs hr sW sB h0 l0 l0' l1 l1' ea eb
   generalize objB m s o=g at*
   generalize o.kind=kk at*
   generalize o.n=nn at*
   by_cases f0:nn=0
   rotate_left
   · exact jc
   subst f0
   by_cases f1:64<a
   · have t1:(64:Int)<(a:Int):=by omega
     exact zA
   have t1:¬(64:Int)<(a:Int):=by omega
   by_cases f2:0<b
   · have t1:(0:Int)<(b:Int):=by omega
     exact zA
   · obtain rfl:b=0:=by omega
     exact zA
 have t3:(o.kind==3)=false:=by simpa using e3
 by_cases e4:o.kind=4
 rotate_left
 · have HO:=qAZ (qEZ (m:=m) (s:=s) e2 e3 e4)
   have t4:(o.kind==4)=false:=by simpa using e4
   rw[ea,eb]
   clear e2 e3 e4 hM hH hR hs hr sW sB h0 l0 l0' l1 l1' ea eb
   generalize objB m s o=g at*
   generalize o.kind=kk at*
   generalize o.n=nn at*
   go_enter Tryz.func63,Tryz.ntmps63
   go_wp2_with fail
   go_ret
   exact⟨by rw[HO.out];rfl,HB0.out _⟩
 have t4:(o.kind==4)=true:=by simpa using e4
 unfold I64 at i2
 have wr:IntKind.i64.wrap ((n0:Int)-1)=(n0:Int)-1:=by rw[qAv];omega
 have UT:Hid (∀(W:World) (r:Nat),Calls Tryz.prog 20 #[.int .i64 ((n0:Int)-1),.int .i64 o.n] (W.drewN r) fun e w''=>e= .returned (.bool (decide (0≤o.n∧o.n≤(n0:Int)-1)))∧∃m,w''=W.drewN m):=fun W r=>(qCU _ _ _).mono fun e w'' h=>⟨h.1,r,h.2⟩
 have q0:∀ob:Obj,(w.alloc ob).cell? ⟨PM,0,none⟩=some (.slice A0 n0 d0):=fun ob=>((HB0.out ob).cell (p:=⟨PM,0,none⟩) hMb).trans hM.1
 by_cases hin:0≤o.n∧o.n<(n0:Int)
 rotate_left
 · have HO:=qAZ (qFi (m:=m) (s:=s) e4 (by rw[h0];exact hin))
   rw[decide_eq_false (by omega:¬(0≤o.n∧o.n≤(n0:Int)-1))] at UT
   rw[ea,eb]
   clear e2 e3 e4 hM hH hR hs hr sW sB h0 l0 l0' l1 l1' ea eb hin
   generalize objB m s o=g at*
   generalize o.kind=kk at*
   generalize o.n=nn at*
   go_enter Tryz.func63,Tryz.ntmps63
   go_wp2_with fail
   go_quiet (first|(go_at_call 20;exact UT.out _ _))
   go_wp2_with fail
   go_ret
   exact⟨by rw[HO.out];rfl,(HB0.out _).trans ((qA7 _ _).mono (by simp))⟩
 rw[decide_eq_true (by omega:(0≤o.n∧o.n≤(n0:Int)-1))] at UT
 obtain⟨k,hk⟩:∃k:Nat,o.n=(k:Int):=⟨o.n.toNat,by omega⟩
 obtain⟨r,hrr⟩:∃r,m.recs[k]? =some r:=⟨m.recs[k]'(by omega),qAa _⟩
 have HO:=qAZ (qFh (m:=m) (s:=s) e4 hk hrr)
 obtain⟨ar,csr,rfl,hab,hc,D,dl,rfl,r1,r2,sqr⟩:=hR.at hrr
 have cr:=fun ob=>((HB0.out ob).cell (p:=ar.add k) qE).trans (qBC (K:=tysL.k) rfl (hc 0 _ rfl))
 have qh:∀ob:Obj,(w.alloc ob).cell? ⟨PH,0,none⟩=some (.func (.func 60) #[] #[.pointer (some hp)]):=fun ob=>((HB0.out ob).cell (p:=⟨PH,0,none⟩) hHb).trans hH
 have EF:Hid (∀w1,Below w.heap.size w w1→Calls Tryz.prog 64 #[.slice P0 a e0,.slice D r.length dl,.func (.func 60) #[] #[.pointer (some hp)]] w1 (Tells (allB s o.words r) w1)):=fun w1 hb=>
  qFJ (hs.low hb) P0 D a r.length e0 dl o.words r ea rfl ((sW.keep fun b hb1=>hb.block b hb1).wide fun b hb1=>qAg hb1 hb.size) ((sqr.keep fun b hb1=>hb.block b hb1).wide fun b hb1=>qAg hb1 hb.size) (by omega) (by unfold maxLen at r2;omega)
 rw[hk] at UT⊢
 rw[eb] at HO
 rw[ea,eb]
 have k0:(0:Int)≤(k:Int):=by omega
 have k1:(k:Int)<(n0:Int):=by omega
 clear e2 e3 e4 hM hH hR hs hr sW sB h0 l0 l0' l1 l1' ea eb hin hk hrr hc r1 r2 sqr i2
 generalize objB m s o=g at*
 generalize o.kind=kk at*
 generalize r.length=rl at*
 generalize allB s o.words r=ab at*
 by_cases f2:0<b
 · have HO2:Hid (g=false):=by show _=_;rw[HO.out,decide_eq_false (by omega)];rfl
   have t5:decide ((0:Int)<(b:Int))=true:=by simp;omega
   have t6:decide (0<b)=true:=by simp;omega
   clear HO
   go_enter Tryz.func63,Tryz.ntmps63
   go_wp2_with fail
   go_quiet (first|(go_at_call 20;exact UT.out _ _))
   go_wp2_with fail
   go_ret
   exact⟨by rw[HO2.out];rfl,(HB0.out _).trans ((qA7 _ _).mono (by simp))⟩
 obtain rfl:b=0:=by omega
 have HO2:Hid (g=ab):=by show _=_;rw[HO.out];simp
 clear f2 HO
 cases ab
 all_goals
  go_enter Tryz.func63,Tryz.ntmps63
  go_upto_region 7 with(fail)
  refine qAp fun W hW=> ?_
  have HBW:Hid (Below w.heap.size w W):=by show Below _ _ _;rw[hW];exact HB0.out _
  have z0:=cell_regrown (show W.cell? ⟨PM,0,none⟩=some (.slice (some ar) n0 d0) by rw[hW];exact q0 _)
  have z1:=cell_regrown (show W.cell? ⟨PH,0,none⟩=some (.func (.func 60) #[] #[.pointer (some hp)]) by rw[hW];exact qh _)
  have z2:=cell_regrown (show W.cell? (ar.add k)=some (.slice D rl dl) by rw[hW];exact cr _)
  have y1:=cell_regrown (show W.cell? ⟨w.heap.size,1,none⟩=some (.int .i64 (k:Int)) by rw[hW];simp[go_sem])
  have y2:=cell_regrown (show W.cell? ⟨w.heap.size,2,none⟩=some (.slice P0 a e0) by rw[hW];simp[go_sem])
  have y3:=cell_regrown (show W.cell? ⟨w.heap.size,3,none⟩=some (.slice P1 0 e1) by rw[hW];simp[go_sem])
  have HR:Hid (∀dq osq,Below w.heap.size w (Go.Sort.grow (redrawn W dq) osq)):=fun dq osq=>HBW.out.trans ((below_regrown W dq osq).mono HBW.out.size)
  have UW:Hid (∀V,Calls Tryz.prog 20 #[.int .i64 ((n0:Int)-1),.int .i64 (k:Int)] V fun e w'=>e= .returned (.bool true)∧Below V.heap.size V w'):=fun V=>(UT.out V 0).mono fun e w' h=>⟨h.1,by obtain⟨m,hm⟩:=h.2;rw[hm];exact qA7 _ _⟩
  clear hW q0 qh cr
  refine wp_region_quiet_below qV qV ?_
  repeat(quiet_step (first|with_reducible exact Calls.regrown_of (UW.out _)|with_reducible exact Calls.regrown_of (EF.out _ (HR.out _ _))))
  refine wpQuiet_nil ?_
  intro _ hw'
  obtain⟨⟨dq,osq⟩,hw''⟩:=hw'
  subst hw''
  have HX2:=qAZ (HR.out dq osq)
  go_wp2_with fail
  go_ret
  exact⟨by rw[HO2.out];rfl,HX2.out⟩
end Go.Proofs.YtconajaecpgjgaaGreat
