/-
Rgi Sxa Sxb Rgt Sxc Sxd
-/
import Derived.Test.YtelceoecekfamaaGreatProg
import Derived.Test.YtelceoecekfamaaGreatQ01
import Derived.Deep.RegionHeld3
import Derived.Deep.MidRow
import Derived.Laws.CopyRow
import Derived.Below
set_option linter.unusedSimpArgs false
set_option linter.unusedVariables false
namespace Go.Proofs.YtelceoecekfamaaGreat
open Go.RowKit
variable {T j n t:Nat}
section
variable {P:Program} {ops:Array Oper} {Q:Exit→Go.Act→World→Prop} {md:Region.Mode}
theorem qEp {l:List Bool} {i:Nat} (h:l[i]? =some false):(l.set i true).count false+1=l.count false:=by
 induction l generalizing i with
 |nil=>simp at h
 |cons x l ih=>
  cases i with
  |zero=>simp at h;subst h;simp
  |succ i=>
   have:=ih qy;simp only[List.set_cons_succ,List.count_cons]
   omega
theorem qEl {listed:Array Bool} {i:Nat} (h:listed.getD i true=false):listed.toList[i]? =some false:=by
 rcases Nat.lt_or_ge i listed.size with h'|h'
 · simp[h'] at h⊢
   exact h
 · simp[Array.getElem?_eq_none h'] at h
theorem qEb (I:Array Bool→Go.Act→World→Prop) (hstep:∀listed a w i,I listed a w→i∈Region.ready md ops listed→wpOp P ops Q i (fun a' w'=>I (listed.setIfInBounds i true) a' w') a w)
 (hend:∀listed a w,I listed a w→Region.ready md ops listed=[]→Q .normal a w):∀(fuel:Nat) (listed:Array Bool) (a:Go.Act) (w:World),I listed a w→listed.toList.count false≤fuel→wpAny P md ops Q fuel listed a w
 |0,listed,a,w,h,hf=>by
  have hr:Region.ready md ops listed=[]:=by
   cases e:Region.ready md ops listed with
   |nil=>rfl
   |cons i rs=>
    have h1:=qEp (qEl (mem_ready.1 (e▸List.mem_cons_self:i∈Region.ready md ops listed)).1)
    omega
  exact⟨hr,hend listed a w h hr⟩
 |fuel+1,listed,a,w,h,hf=>by
  refine⟨fun hr=>hend listed a w h hr,fun i hi=>wpOp_mono (fun a' w' h'=> ?_) (hstep listed a w i h hi)⟩;refine qEb I hstep hend fuel _ a' w' h' ?_;have h1:=qEp (qEl (mem_ready.1 hi).1);rw[Array.toList_setIfInBounds]
  omega
def dstB (ops:Array Oper) (n:Nat):Bool:=
 (List.range ops.size).all fun j=>((ops[j]?).map fun o=>o.guard.isNone && o.after.toList.all (fun e=>decide (e.on<j)) && (match o.dst with
   |some d=>decide (d<n) && (List.range ops.size).all (fun k=>k==j || ((ops[k]?).map fun q=>q.dst != some d).getD true)
   |none=>false)).getD true
structure Fram (ops:Array Oper) (n:Nat) (a0 a:Go.Act):Prop where
 size:a.tmps.size=n
 defers:a.defers=a0.defers
 rest:∀t,(∀(k:Nat) (q:Oper),ops[k]? =some q→q.dst≠some t)→a.tmps.getD t undef=a0.tmps.getD t undef
end
inductive SL where
 |i (k:IntKind) (n:Int)|y (x:Bool)|z|u|q (k:Nat)|p (b o:Nat)|s (b o n c:Nat)
inductive SV where
 |c (x:SL)|a (l:List SL)
abbrev Bk:=Option (Nat×List SL)
inductive RS where
 |val (r:SV)|new (T:Nat) (cs:List SL) (n:Option Nat)
def SL.refs:SL→List Nat
 | .p g _=>[g]| .s g _ _ _=>[g]|_=>[]
def refsL (l:List SL):List Nat:=l.flatMap SL.refs
def SV.refs:SV→List Nat
 | .c x=>x.refs| .a l=>refsL l
def SV.cells:SV→List SL
 | .c x=>[x]| .a l=>l
def lv (qv:Nat→Value) (ad:Nat→Nat):SL→Value
 | .i k n=> .int k n| .y x=> .bool x| .z=> .slice none 0 0| .u=>undef| .q k=>qv k
 | .p b o=> .pointer (some ⟨ad b,o,none⟩)| .s b o n c=> .slice (some ⟨ad b,o,none⟩) n c
def vs (qv:Nat→Value) (ad:Nat→Nat):SV→Value
 | .c x=>lv qv ad x| .a l=> .agg (l.map (lv qv ad)).toArray
def slOf:Value→Option SL
 | .int k n=>some (.i k n)| .bool x=>some (.y x)| .slice none 0 0=>some .z|_=>none
def opv (ρ:Nat→SV):Operand→Option SV
 | .tmp t=>some (ρ t)| .const v=>(slOf v).map .c|_=>none
def szT (P:Program) (t:Nat):Option Nat:=(P.info? t).map (·.size)
def zerS (P:Program) (t:Nat):Option (List SL):=((P.info? t).bind (·.zero)).bind fun v=>v.cells.toList.mapM slOf
def setS {α:Type} (cs:List α) (off:Nat):List α→List α
 |[]=>cs|x::l=>setS (cs.set off x) (off+1) l
def fillS (place:Nat→Option (Nat×Nat)) (cs:List SL):List (Nat×List SL)→Option (List SL)
 |[]=>some cs
 |(i,l)::rest=>match place i with
  |none=>none
  |some (off,size)=>if l.length≠size || off+l.length>cs.length then none else fillS place (setS cs off l) rest
def partsS (ρ:Nat→SV) (ps:List (Nat×Operand)):Option (List (Nat×List SL)):=ps.mapM fun x=>(opv ρ x.2).map fun v=>(x.1,v.cells)
def placeS (P:Program) (fs:Array Field) (i:Nat):Option (Nat×Nat):=fs[i]?.bind fun f=>(szT P f.type).map fun n=>(f.offset,n)
def ex0 (P:Program) (ρ:Nat→SV) (bl:List Bk):Op→Option RS
 | .move x| .assign x=>(opv ρ x).map .val
 | .pick c x y=>match opv ρ c with
   |some (.c (.y b))=>(opv ρ (if b then x else y)).map .val
   |_=>none
 | .alloc T=>(zerS P T).map fun cs=> .new T cs none
 | .box T x=>(opv ρ x).map fun v=> .new T v.cells none
 | .build T ps=>match P.underlying T,zerS P T,partsS ρ ps.toList with
   |some (.struct fs),some z,some l=>(fs.toList.mapM fun f=>(P.info? f.type).map fun i=>(f.offset,i.size)).bind fun pl=>(fillS (fun i=>pl[i]?) z l).map fun cs=> .val (.a cs)
   |_,_,_=>none
 | .buildSlice T len ps=>match P.underlying T with
   |some (.slice e)=>match szT P e,zerS P e,partsS ρ ps.toList with
    |some m,some z,some l=>if len*m≤2 ^ 24∧len*m≠0∧z.length≠0 then (fillS (fun i=>some (i*m,m)) ((List.range (len*m)).map fun k=>z.getD (k % z.length) .u) l).map fun cs=> .new e cs (some len) else none
    |_,_,_=>none
   |_=>none
 | .load T x=>match opv ρ x with
   |some (.c (.p b o))=>match bl[b]?,P.underlying T,szT P T with
    |some (some (_,cs)),some d,some n=>if d.isRow then if o+n≤cs.length then some (.val (.a ((cs.drop o).take n))) else none else cs[o]?.map fun c=> .val (.c c)
    |_,_,_=>none
   |_=>none
 | .fieldAddr T x f=>match opv ρ x,P.underlying T with
   |some (.c (.p b o)),some (.struct fs)=>match placeS P fs f with
    |some (off,_+1)=>some (.val (.c (.p b (o+off))))
    |_=>none
   |_,_=>none
 | .field T x f=>match opv ρ x,P.underlying T with
   |some (.a l),some (.struct fs)=>match fs[f]? with
    |some fd=>match P.underlying fd.type,l[fd.offset]? with
     |some d,some c=>if d.isRow then none else some (.val (.c c))
     |_,_=>none
    |_=>none
   |_,_=>none
 | .binOp op T x y _=>match opv ρ x,opv ρ y with
   |some (.c (.i k a)),some (.c (.i k' b))=>if k=k' then (match op with| .eql=>some (.val (.c (.y (a==b))))| .neq=>some (.val (.c (.y (a != b))))| .lss=>some (.val (.c (.y (decide (a<b)))))|_=>none) else none
   |_,_=>none
 |_=>none
section
variable {P:Program} {qv:Nat→Value} {ad ad':Nat→Nat} {ρ:Nat→SV}
theorem qFq {x:SL} (h:∀j∈x.refs,ad j=ad' j):lv qv ad x=lv qv ad' x:=by
 cases x<;>simp_all [lv,SL.refs]
theorem qBt {l:List SL} (h:∀j∈refsL l,ad j=ad' j):l.map (lv qv ad)=l.map (lv qv ad'):=
 List.map_congr_left fun x hx=>qFq fun j hj=>h j (List.mem_flatMap.2 ⟨x,hx,hj⟩)
theorem qB4 {x:SV} (h:∀j∈x.refs,ad j=ad' j):vs qv ad x=vs qv ad' x:=by
 cases x with
 |c x=>exact qFq h
 |a l=>simp only[vs,qBt h]
theorem qHF {v:Value} {x:SL} (h:slOf v=some x):lv qv ad x=v:=by
 unfold slOf at h;split at h<;>first|(injection h with h;subst h;rfl)|cases h
theorem qDp:∀{vs:List Value} {l:List SL},vs.mapM slOf=some l→l.map (lv qv ad)=vs
 |[],l,h=>by simp at h;subst h;rfl
 |v::vs,l,h=>by
  simp only[List.mapM_cons,Option.bind_eq_bind,Option.bind_eq_some_iff,Option.pure_def,Option.some.injEq] at h;obtain⟨x,hx,l',hl',rfl⟩:=h;rw[List.map_cons,qHF hx,qDp hl']
def Agr (qv:Nat→Value) (ad:Nat→Nat) (ρ:Nat→SV) (a:Go.Act) (o:Op):Prop:=∀x∈o.operands,∀v,opv ρ x=some v→a.eval x=vs qv ad v
theorem qD0 {a:Go.Act} {x:Operand} {v:SV} (ht:∀t,x= .tmp t→a.tmps.getD t undef=vs qv ad (ρ t)) (h:opv ρ x=some v):a.eval x=vs qv ad v:=by
 cases x with
 |tmp t=>simp[opv] at h;subst h;exact ht t rfl
 |const c=>
  simp only[opv,Option.map_eq_some_iff] at h;obtain⟨y,hy,rfl⟩:=h;exact(qHF hy).symm
 |global g=>simp[opv] at h
 |func f=>simp[opv] at h
theorem qCN {w:World} (h:szT P t=some n):(sizeOf t).run P w= .ok n w:=by
 unfold szT at h
 cases hq:P.info? t with
 |none=>simp[hq] at h
 |some i=>simp[hq] at h;simp[sizeOf,typeInfo,hq,h]
theorem qFO {l:List SL} {w:World} (h:zerS P t=some l):∃z,(zeroValue t).run P w= .ok z w∧z.cells=(l.map (lv qv ad)).toArray:=by
 unfold zerS at h;simp only[Option.bind_eq_some_iff] at h;obtain⟨v,⟨i,hi,hz⟩,hl⟩:=h;exact⟨v,by simp[zeroValue,typeInfo,hi,hz],by rw[qDp hl]⟩
theorem qIa {v:SV} (h:∀x∈v.cells,(lv qv ad x).cells= #[lv qv ad x]):(vs qv ad v).cells=(v.cells.map (lv qv ad)).toArray:=by
 cases v with
 |c x=>exact h x (by simp[SV.cells])
 |a l=>rfl
theorem qFU {α β:Type} (f:α→β):∀(l cs:List α) (off:Nat),(setS cs off l).map f=setS (cs.map f) off (l.map f)
 |[],cs,off=>rfl
 |x::l,cs,off=>by simp only[setS,List.map_cons,qFU f l,List.map_set]
theorem qEd:∀(l:List Value) (cs:Array Value) (off k:Nat),(l.zipIdx k).foldl (fun(cs:Array Value) (x:Value×Nat)=>cs.setIfInBounds (off+x.2) x.1) cs=(setS cs.toList (off+k) l).toArray
 |[],cs,off,k=>by simp[setS]
 |x::l,cs,off,k=>by
  simp only[List.zipIdx_cons,List.foldl_cons,qEd l,setS,Array.toList_setIfInBounds,Nat.add_assoc]
end
structure Held (M:Nat) (qv:Nat→Value) (ad:Nat→Nat) (bl:List Bk) (w:World):Prop where
 here:∀(j T:Nat) (cs:List SL),bl[j]? =some (some (T,cs))→w.heap[ad j]? =some (.cells (cs.map (lv qv ad)).toArray T (0,0))
 inj:∀(i j:Nat) A B,bl[i]? =some (some A)→bl[j]? =some (some B)→ad i=ad j→i=j
 lo:∀(j:Nat) A,bl[j]? =some (some A)→M≤ad j
 bd:∀(j T:Nat) (cs:List SL),bl[j]? =some (some (T,cs))→∀r∈refsL cs,r<bl.length
def newV (nb:Nat):Option Nat→SV
 |none=> .c (.p nb 0)|some n=> .c (.s nb 0 n n)
def newA (g:Nat):Option Nat→Value
 |none=> .pointer (some ⟨g,0,none⟩)|some n=> .slice (some ⟨g,0,none⟩) n n
section
variable {P:Program} {qv:Nat→Value} {ad:Nat→Nat} {ρ:Nat→SV} {M:Nat} {bl:List Bk} {w:World} {a:Go.Act} {o:Oper}
theorem lv_one (hq:∀k,(qv k).oneCell'=true) (x:SL):(lv qv ad x).cells= #[lv qv ad x]:=by
 cases x<;>try rfl
 case q k=>
  have:=hq k;simp only[lv]
  cases h:qv k<;>first|rfl|(rw[h] at this;simp[Value.oneCell'] at this)
theorem qCx (hq:∀k,(qv k).oneCell'=true) (v:SV):(vs qv ad v).cells=(v.cells.map (lv qv ad)).toArray:=qIa fun x _=>lv_one hq x
theorem qEG {place:Nat→Option (Nat×Nat)} (hq:∀k,(qv k).oneCell'=true):∀(ps:List (Nat×Operand)) (l:List (Nat×List SL)) (cs r:List SL),(∀x∈ps,∀v,opv ρ x.2=some v→a.eval x.2=vs qv ad v)→partsS ρ ps=some l→fillS place cs l=some r→
 Instr.fill place (cs.map (lv qv ad)).toArray (ps.map fun x=>(x.1,a.eval x.2))=some (r.map (lv qv ad)).toArray
 |[],l,cs,r,_,h1,h2=>by
  simp[partsS] at h1;subst h1;simp[fillS] at h2;subst h2
  rfl
 |(i,x)::ps,l,cs,r,hA,h1,h2=>by
  simp only[partsS,List.mapM_cons,Option.bind_eq_bind,Option.bind_eq_some_iff,Option.pure_def,Option.some.injEq,Option.map_eq_some_iff] at h1;obtain⟨_,⟨v,hv,rfl⟩,l',hl',rfl⟩:=h1;have e:=hA (i,x) (by simp) v hv;simp only at e;have ih:=fun cs r h2=>qEG (place:=place) hq ps l' cs r (fun y hy=>hA y (by simp[hy])) hl' h2;simp only[fillS] at h2;simp only[List.map_cons,Instr.fill,e,qCx hq v]
  cases hp:place i with
  |none=>rw[hp] at h2;cases h2
  |some os=>
   obtain⟨off,size⟩:=os;rw[hp] at h2;simp only at h2;split at h2
   · cases h2
   · rename_i hc
     have hc':¬((List.map (lv qv ad) v.cells).toArray.size≠size || decide (off+(List.map (lv qv ad) v.cells).toArray.size>(List.map (lv qv ad) cs).toArray.size))=true:=by simpa using hc
     simp only;rw[if_neg hc'];have:=ih _ _ h2;rw[qFU] at this;rw[←this]
     congr 1
     have h3:=qEd (v.cells.map (lv qv ad)) (cs.map (lv qv ad)).toArray off 0;simp only[Nat.add_zero] at h3;rw[←h3,←Array.foldl_toList];simp
theorem row_run (hH:Held M qv ad bl w) {o:Nat} {cs:List SL} (hj:bl[j]? =some (some (T,cs))) (hn:o+n≤cs.length):w.rangeAt (ad j) o (((cs.drop o).take n).map (lv qv ad)):=fun k v hv=>by
 simp only[World.cell?,hH.here j T cs hj];simp only[List.getElem?_map,List.getElem?_take,List.getElem?_drop,Option.map_eq_some_iff] at hv;obtain⟨x,hx,rfl⟩:=hv;split at hx
 · simp[hx]
 · cases hx
theorem qJE (hH:Held M qv ad bl w) {o:Nat} {cs:List SL} {d:TypeDesc} (hj:bl[j]? =some (some (T,cs))) (hu:P.underlying t=some d) (hs:szT P t=some n) {r:SV}
 (h:(if d.isRow then if o+n≤cs.length then some (RS.val (.a ((cs.drop o).take n))) else none else cs[o]?.map fun c=>RS.val (.c c))=some (.val r)):
 (Instr.loadAt t (.pointer (some ⟨ad j,o,none⟩))).run P w= .ok (vs qv ad r) w:=by
 split at h
 · rename_i hd
   split at h
   · rename_i hn
     injection h with h;injection h with h;subst h;have:=run_loadAt_mid (P:=P) w (ad j) o t _ d (row_run hH hj hn) hu hd (by rw[show(P.info? t).map (·.size)=some n from hs];simp;omega);rw[this]
     rfl
   · cases h
 · rename_i hd
   simp only[Option.map_eq_some_iff] at h;obtain⟨c,hc,h⟩:=h;injection h with h;subst h;have hcell:w.cell? ⟨ad j,o,none⟩=some (lv qv ad c):=by simp[World.cell?,hH.here j T cs hj,hc]
   have hagg:(isAgg t).run P w= .ok false w:=by
    unfold isAgg;rw[Sem.run_bind,run_underlying hu w]
    cases d<;>simp_all
   simp[Instr.loadAt,Instr.sureAddr,loadVar,hagg,load,Sem.run,hcell,vs]
theorem qHa {l:List SL} (h:zerS P t=some l):∃i z,P.info? t=some i∧i.zero=some z∧z.cells=(l.map (lv qv ad)).toArray:=by
 unfold zerS at h;simp only[Option.bind_eq_some_iff] at h;obtain⟨v,⟨i,hi,hz⟩,hl⟩:=h;exact⟨i,v,hi,hz,by rw[qDp hl]⟩
theorem qFB (hq:∀k,(qv k).oneCell'=true) (hH:Held M qv ad bl w) (hA:Agr qv ad ρ a o.op) {R:RS} (h:ex0 P ρ bl o.op=some R):
 (∃r,R= .val r∧(execOp a.eval o).run P w= .ok (.value (vs qv ad r)) w)∨(∃T cs n,R= .new T cs n∧(execOp a.eval o).run P w= .ok (.value (newA w.heap.size n)) (w.alloc (.cells (cs.map (lv qv ad)).toArray T))):=by
 unfold execOp;unfold Agr at hA;generalize o.op=op at h hA;unfold ex0 at h;split at h
 · simp only[Option.map_eq_some_iff] at h
   obtain⟨v,hv,rfl⟩:=h;exact .inl ⟨v,rfl,by simp[hA _ zD v hv]⟩
 · simp only[Option.map_eq_some_iff] at h
   obtain⟨v,hv,rfl⟩:=h;exact .inl ⟨v,rfl,by simp[hA _ zD v hv]⟩
 · rename_i c x y
   split at h
   · rename_i b hb
     simp only[Option.map_eq_some_iff] at h;obtain⟨v,hv,rfl⟩:=h;have e1:a.eval c= .bool b:=hA c zD _ hb;have e2:=hA (if b then x else y) (by cases b<;>simp[Op.operands]) v hv;exact .inl ⟨v,rfl,by cases b<;>simp[e1,asBool] at e2⊢<;>exact e2⟩
   · cases h
 · simp only[Option.map_eq_some_iff] at h
   obtain⟨l,hl,rfl⟩:=h;obtain⟨z,hz,hc⟩:=qFO (ad:=ad) (qv:=qv) (w:=w) hl;exact .inr ⟨_,_,_,rfl,by simp[Instr.alloc,hz,newVar,newRow,hc,newA]⟩
 · simp only[Option.map_eq_some_iff] at h
   obtain⟨v,hv,rfl⟩:=h;exact .inr ⟨_,_,_,rfl,by simp[hA _ zD v hv,Instr.box,newVar,newRow,qCx hq v,newA]⟩
 · rename_i T ps
   split at h
   · rename_i fs z l hu hz hl
     simp only[Option.bind_eq_some_iff,Option.map_eq_some_iff] at h;obtain⟨pl,hpl,cs,hcs,rfl⟩:=h;obtain⟨i,z',hi,hz',hzc⟩:=qHa (ad:=ad) (qv:=qv) hz;have hf:=qEG (ad:=ad) (qv:=qv) (a:=a) (ρ:=ρ) hq ps.toList l z cs (fun x hx v hv=>hA x.2 (by simp only[Op.operands];exact List.mem_toArray.2 (List.mem_map.2 ⟨x,hx,rfl⟩)) v hv) hl hcs;have hb:P.built T (ps.map fun(i,x)=>(i,a.eval x)).toList=some (cs.map (lv qv ad)).toArray:=by
      simp only[Program.built,hi,hu,hz',hpl,hzc];simpa using hf
     exact .inl ⟨_,rfl,by simp only[Sem.run_bind,run_build w T _ _ hb,Result.andThen_ok];rfl⟩
   · cases h
 · rename_i T len ps
   split at h
   · rename_i e hu
     split at h
     · rename_i m z l hm hz hl
       split at h
       · rename_i hlim
         simp only[Option.map_eq_some_iff] at h;obtain⟨cs,hcs,rfl⟩:=h;have hf:=qEG (ad:=ad) (qv:=qv) (a:=a) (ρ:=ρ) hq ps.toList l _ cs (fun x hx v hv=>hA x.2 (by simp only[Op.operands];exact List.mem_toArray.2 (List.mem_map.2 ⟨x,hx,rfl⟩)) v hv) hl hcs;obtain⟨z',hz',hzc⟩:=qFO (ad:=ad) (qv:=qv) (w:=w) hz;obtain⟨h1,h2,h3⟩:=hlim;have he:((Array.range (len*m)).map fun k=>(z'.cells)[k % z'.cells.size]!)=(((List.range (len*m)).map fun k=>z.getD (k % z.length) .u).map (lv qv ad)).toArray:=by
          apply Array.ext'
          simp only[Array.toList_map,Array.toList_range,List.map_map];refine List.map_congr_left fun k _=> ?_;have hk:k % z.length<z.length:=Nat.mod_lt _ (by omega);simp[hzc,Function.comp,hk,List.getD_eq_getElem?_getD]
         rw[←he] at hf;refine .inr ⟨_,_,_,rfl,?_⟩;have hp:(ps.map fun(i,x)=>(i,a.eval x)).toList=ps.toList.map fun x=>(x.1,a.eval x.2):=by simp
         simp only[Instr.buildSlice,Sem.run_bind,run_underlying hu,qCN hm,Result.andThen_ok,if_neg h2,hz',hp];rw[if_neg (by omega)];simp only[Sem.run_bind,Result.andThen_ok,Sem.run_pure,hf,hz',newRow,run_newObj,newA]
         rfl
       · cases h
     · cases h
   · cases h
 · rename_i T x
   split at h
   · rename_i b o hx
     split at h
     · rename_i T' cs d n hb hu hs
       have hl:=fun r=>qJE (P:=P) (r:=r) (o:=o) hH hb hu hs;have e:=hA x zD _ hx
       cases R with
       |val r=>exact .inl ⟨r,rfl,by simp[e,vs,lv,hl r h]⟩
       |new _ _ _=>
        exfalso;split at h
        · split at h<;>cases h
        · simp[Option.map_eq_some_iff] at h
     · cases h
   · cases h
 · rename_i T x f
   split at h
   · rename_i b o fs hx hu
     have e:=hA x zD _ hx;split at h
     · rename_i off n hp
       injection h with h;subst h;simp only[placeS,Option.bind_eq_some_iff,Option.map_eq_some_iff,Prod.mk.injEq] at hp;obtain⟨fd,hfd,m,hm,rfl,rfl⟩:=hp;refine .inl ⟨_,rfl,?_⟩;have hadd:(⟨ad b,o,none⟩:Addr).add fd.offset=⟨ad b,o+fd.offset,none⟩:=Addr.add_mid _ _ _;simp[e,vs,lv,Instr.fieldAt,run_underlying hu,hfd,Instr.sureAddr,fieldPlace,qCN hm,hadd]
     · cases h
   · cases h
 · rename_i T x f
   split at h
   · rename_i l fs hx hu
     have e:=hA x zD _ hx;split at h
     · rename_i fd hfd
       split at h
       · rename_i d c hd hc
         split at h
         · cases h
         · rename_i hr
           injection h with h;subst h;have hagg:(isAgg fd.type).run P w= .ok false w:=by
            unfold isAgg;rw[Sem.run_bind,run_underlying hd w]
            cases d<;>simp_all
           exact .inl ⟨_,rfl,by simp[e,vs,Instr.field,run_underlying hu,hfd,asAgg,part,hagg,hc]⟩
       · cases h
     · cases h
   · cases h
 · rename_i op T x y T'
   split at h
   · rename_i k n k' n' hx hy
     have e1:=hA x zD _ hx;have e2:=hA y zD _ hy;split at h
     · rename_i hk
       subst hk;simp only[vs,lv] at e1 e2;split at h<;>first
        |cases h;done
        |(injection h with h;subst h;exact .inl ⟨_,rfl,by simp[e1,e2,eqGuard,binOp,Op.intCmp,vs,lv]⟩)
     · cases h
   · cases h
 · cases h
end
section
variable {P:Program} {a:Go.Act} {w w':World} {o:Oper} {K:Go.Act→World→Prop} {Q:Exit→Go.Act→World→Prop} {v:Value}
theorem call_in {f:FuncId} {fn:Func} (hf:P.funcs[f]? =some fn) (hname:(fn.name=="runtime.NumGoroutine")=false) (hb:fn.body.isSome=true) (args:Array Value) (w:World):(callFunc f args).run P w= .ok (.enter f args) w:=by
 have hne:¬fn.name="runtime.NumGoroutine":=by simpa using hname
 obtain⟨c,hc⟩:=Option.isSome_iff_exists.1 hb;simp[callFunc,hf,hc,hne]
theorem op_call {f:FuncId} {xs:Array Operand} {ts:Array TypeId} {vs:Array Value} (ho:o.op= .call {callee:= .value (.func f),args:=xs,argTypes:=ts}) (hx:xs.map a.eval=vs) (hf:∀vs w,(callFunc f vs).run P w= .ok (.enter f vs) w) (hc:Calls P f vs w fun e w'=>∃v,e= .returned v∧K (a.put o.dst v) w'):o.wp P a w K Q:=by
 unfold Oper.wp execOp;rw[ho];simp only[resolve,invoke,Act.eval,hx,Sem.run_bind,Sem.run_pure,Result.andThen_ok,Deferred.ofValue,Array.append_empty,Array.empty_append,hf,Oper.upon];exact Calls.mono hc fun e w' q=>by obtain⟨v,rfl,hk⟩:=q;exact hk
end
abbrev Cal:=Nat→List SV→List Bk→Option (SV×List Bk)
def refsB (nw:List Bk):List Nat:=nw.flatMap fun|some x=>refsL x.2|none=>[]
def ex (P:Program) (orc:Op→List SV→Option SV) (call:Cal) (ρ:Nat→SV) (bl:List Bk) (op:Op):Option (SV×List Bk):=
 match (op.operands.toList.mapM (opv ρ)).bind (orc op) with
 |some r=>some (r,[])
 |none=>match op with
  | .call c=>match c.callee with
    | .value (.func f)=>(c.args.toList.mapM (opv ρ)).bind fun l=>if l.all fun v=>v.refs.all (·<bl.length) then call f l bl else none
    |_=>none
  |op=>match ex0 P ρ bl op with
   |some (.val r)=>some (r,[])
   |some (.new T cs n)=>if (refsL cs).all (·<bl.length) then some (newV bl.length n,[some (T,cs)]) else none
   |none=>none
structure Sxs where
 sl:List SV
 bl:List Bk
def exSt (P:Program) (lo:Nat) (ρ:Nat→SV) (bl:List Bk) (T:Nat) (x v:Operand):Option (List Bk):=match opv ρ x,opv ρ v with
 |some (.c (.p b o)),some v=>match bl[b]?,szT P T with
  |some (some (T',cs)),some n=>if lo≤b∧v.cells.length=n∧o+n≤cs.length∧(v.cells.all fun| .u=>false|_=>true)∧(refsL v.cells).all (·<bl.length) then some (bl.set b (some (T',cs.take o++v.cells++cs.drop (o+n)))) else none
  |_,_=>none
 |_,_=>none
def slS (sl:List SV) (t:Nat):SV:=sl.getD t (.c .u)
def wantS (all:List Oper) (sl:List SV) (o:Oper):Option Bool:=match o.guard with
 |none=>some true
 |some (j,b)=>match (all[j]?).bind (·.dst) with
  |some d=>match slS sl d with
   | .c (.y v)=>if d<sl.length then some (v==b) else none
   |_=>none
  |none=>none
def exS (P:Program) (orc:Op→List SV→Option SV) (call:Cal) (lo:Nat) (all:List Oper):List Oper→Sxs→Option Sxs
 |[],σ=>some σ
 |o::l,σ=>match wantS all σ.sl o with
  |none=>none
  |some false=>match o.dst with
   |some d=>if d<σ.sl.length then exS P orc call lo all l ⟨σ.sl.set d (.c .u),σ.bl⟩ else none
   |none=>exS P orc call lo all l σ
  |some true=>match o.op with
   | .store T x v=>if o.dst.isSome then none else (exSt P lo (slS σ.sl) σ.bl T x v).bind fun bl=>exS P orc call lo all l ⟨σ.sl,bl⟩
   |op=>match ex P orc call (slS σ.sl) σ.bl op,o.dst with
    |some (r,nw),some d=>if d<σ.sl.length∧(r.refs++refsB nw).all (·<σ.bl.length+nw.length) then exS P orc call lo all l ⟨σ.sl.set d r,σ.bl++nw⟩ else none
    |_,_=>none
structure Post (qv:Nat→Value) (ad:Nat→Nat) (bl nw:List Bk) (w w':World) (ad':Nat→Nat):Prop where
 ag:∀j:Nat,j<bl.length→ad' j=ad j
 bw:Below w.heap.size w w'
 new:∀(j T:Nat) (cs:List SL),nw[j]? =some (some (T,cs))→w.heap.size≤ad' (bl.length+j)∧w'.heap[ad' (bl.length+j)]? =some (.cells (cs.map (lv qv ad')).toArray T (0,0))
 inj:∀(i j:Nat) A B,nw[i]? =some (some A)→nw[j]? =some (some B)→ad' (bl.length+i)=ad' (bl.length+j)→i=j
def Callee (P:Program) (f:Nat):Prop:=∃fn,P.funcs[f]? =some fn∧(fn.name=="runtime.NumGoroutine")=false∧fn.body.isSome=true
def CallOK (P:Program) (w0:World) (qv:Nat→Value) (call:Cal):Prop:=∀f l bl r nw,call f l bl=some (r,nw)→Callee P f∧∀ad w,Held w0.heap.size qv ad bl w→Below w0.heap.size w0 w→(∀v∈l,∀j∈v.refs,j<bl.length)→
 Calls P f (l.map (vs qv ad)).toArray w fun e w'=>∃ad',Post qv ad bl nw w w' ad'∧e= .returned (vs qv ad' r)
def OrcOK (P:Program) (w0:World) (qv:Nat→Value) (orc:Op→List SV→Option SV):Prop:=∀(o:Oper) l r,orc o.op l=some r→∀ad (a:Go.Act) w,o.op.operands.toList.map a.eval=l.map (vs qv ad)→Below w0.heap.size w0 w→(execOp a.eval o).run P w= .ok (.value (vs qv ad r)) w
section
variable {P:Program} {qv:Nat→Value} {ad ad':Nat→Nat} {ρ:Nat→SV} {M:Nat} {bl nw:List Bk} {w w' w0:World} {a:Go.Act} {o:Oper} {orc:Op→List SV→Option SV} {call:Cal} {r:SV}
theorem qC9 {l:List SV}:∀{xs:List Operand},(∀x∈xs,∀v,opv ρ x=some v→a.eval x=vs qv ad v)→xs.mapM (opv ρ)=some l→xs.map a.eval=l.map (vs qv ad)
 |[],_,h=>by simp at h;subst h;rfl
 |x::xs,hA,h=>by
  simp only[List.mapM_cons,Option.bind_eq_bind,Option.bind_eq_some_iff,Option.pure_def,Option.some.injEq] at h;obtain⟨v,hv,l',hl',rfl⟩:=h;simp only[List.map_cons,hA x (by simp) v hv,qC9 (fun y hy=>hA y (by simp[hy])) hl']
theorem qC8 (hw:w'=w):Post qv ad bl [] w w' ad:=by
 subst hw;exact⟨fun _ _=>rfl,qAk _ _,fun j T cs h=>by simp at h,fun i j A B h=>by simp at h⟩
theorem qI5 {cs:List SL} (h:∀j∈refsL cs,j<bl.length):Post qv ad bl [some (T,cs)] w (w.alloc (.cells (cs.map (lv qv ad)).toArray T)) (fun j=>if j=bl.length then w.heap.size else ad j):=by
 refine⟨fun j hj=>if_neg (by omega),(qAk _ _).alloc (qAi _) _,fun j T' cs' hj=> ?_,fun i j A B hi hj _=> ?_⟩
 · cases j with
   |succ j=>simp at hj
   |zero=>
    simp at hj;obtain⟨rfl,rfl⟩:=hj;simp only[Nat.add_zero,if_true];refine⟨qAi _,?_⟩;rw[qBt (ad:=fun j=>if j=bl.length then w.heap.size else ad j) (ad':=ad) fun j hj=>if_neg (by have:=h j hj;omega)]
    show(w.heap.push _)[w.heap.size]? =_
    simp
 · cases i<;>cases j<;>simp at hi hj<;>rfl
theorem ex_ok {Q:Exit→Go.Act→World→Prop} (hq:∀k,(qv k).oneCell'=true) (hc:CallOK P w0 qv call) (ho:OrcOK P w0 qv orc) (hH:Held w0.heap.size qv ad bl w) (hO:Below w0.heap.size w0 w) (hA:Agr qv ad ρ a o.op) (h:ex P orc call ρ bl o.op=some (r,nw)):
 o.wp P a w (fun a' w'=>∃ad',Post qv ad bl nw w w' ad'∧a'=a.put o.dst (vs qv ad' r)) Q:=by
 have fin:∀{v W} ad',(execOp a.eval o).run P w= .ok (.value v) W→Post qv ad bl nw w W ad'→v=vs qv ad' r→o.wp P a w (fun a' w'=>∃ad',Post qv ad bl nw w w' ad'∧a'=a.put o.dst (vs qv ad' r)) Q:=fun ad' hr hp hv=>by
  unfold Oper.wp;rw[hr];exact⟨ad',hp,by rw[hv]⟩
 unfold ex at h;split at h
 · rename_i v hv
   injection h with h;injection h with h1 h2;subst h1;subst h2;simp only[Option.bind_eq_some_iff] at hv;obtain⟨l,hl,hv⟩:=hv;exact fin ad (ho o l _ hv ad a w (qC9 (fun x hx=>hA x (by simpa using hx)) hl) hO) (qC8 rfl) rfl
 · split at h
   · rename_i c hop
     split at h
     · rename_i f hcal
       simp only[Option.bind_eq_some_iff] at h;obtain⟨l,hl,h⟩:=h;split at h
       · rename_i hb
         obtain⟨⟨fn,hf,h1,h2⟩,hC⟩:=hc f l bl r nw h;have hx:c.args.toList.map a.eval=l.map (vs qv ad):=qC9 (fun x hx=>hA x (by rw[hop];simp[Op.operands,Call.operands];exact .inr (by simpa using hx))) hl;have hx':c.args.map a.eval=(l.map (vs qv ad)).toArray:=Array.ext' (by rw[Array.toList_map,hx]);obtain⟨cal,cargs,cts⟩:=c;simp only at hcal;subst hcal;refine op_call hop hx' (fun vs w=>call_in hf h1 h2 vs w) ((hC ad w hH hO fun v hv j hj=> ?_).mono fun e w' ⟨ad',hp,he⟩=>⟨_,he,ad',hp,rfl⟩);simp only[List.all_eq_true,decide_eq_true_eq] at hb;exact hb v hv j hj
       · cases h
     · cases h
   · split at h
     · rename_i v hv
       injection h with h;injection h with h1 h2;subst h1;subst h2;rcases qFB hq hH hA hv with⟨r',e,hr⟩|⟨T,cs,n,e,hr⟩
       · injection e with e;subst e
         exact fin ad hr (qC8 rfl) rfl
       · cases e
     · rename_i T cs n hv
       split at h
       · rename_i hb
         injection h with h;injection h with h1 h2;subst h1;subst h2;rcases qFB hq hH hA hv with⟨r',e,hr⟩|⟨T',cs',n',e,hr⟩
         · cases e
         · injection e with e1 e2 e3;subst e1;subst e2;subst e3
           simp only[List.all_eq_true,decide_eq_true_eq] at hb;refine fin _ hr (qI5 hb) ?_
           cases n<;>simp[newA,newV,vs,lv]
       · cases h
     · cases h
end
structure Rl (w0 we:World) (qv:Nat→Value) (ade:Nat→Nat) (lo:Nat) (ad:Nat→Nat) (σ:Sxs) (a:Go.Act) (w:World):Prop where
 tm:a.tmps=(σ.sl.map (vs qv ad)).toArray
 df:a.defers=[]
 hd:Held w0.heap.size qv ad σ.bl w
 old:Below w0.heap.size w0 w
 bw:Below we.heap.size we w
 own:∀(j:Nat) A,lo≤j→σ.bl[j]? =some (some A)→we.heap.size≤ad j
 ag:∀j,j<lo→ad j=ade j
 le:lo≤σ.bl.length
 sb:∀v∈σ.sl,∀j∈v.refs,j<σ.bl.length
section
variable {P:Program} {qv:Nat→Value} {ad ad' ade:Nat→Nat} {M lo:Nat} {bl nw:List Bk} {w w' w0 we:World} {a:Go.Act} {orc:Op→List SV→Option SV} {call:Cal} {r:SV} {σ σ':Sxs} {ops:Array Oper} {Q:Exit→Go.Act→World→Prop}
theorem Held.lt (h:Held M qv ad bl w) {A:Nat×List SL} (hj:bl[j]? =some (some A)):ad j<w.heap.size:=
 (Array.getElem?_eq_some_iff.1 (h.here j A.1 A.2 hj)).1
theorem qDE {cs:List SL} (h:nw[j]? =some (some (T,cs))) {x:Nat} (hx:x∈refsL cs):x∈refsB nw:=
 List.mem_flatMap.2 ⟨_,qAl h,hx⟩
theorem qJU (hH:Held M qv ad bl w) (hp:Post qv ad bl nw w w' ad') (hM:M≤w.heap.size) (hb:∀x∈refsB nw,x<bl.length+nw.length):Held M qv ad' (bl++nw) w':=by
 have hold:∀(j:Nat) A,bl[j]? =some (some A)→ad' j=ad j:=fun j A hj=>hp.ag j (qAj.1 hj).1;have hsp:∀(j:Nat) A,(bl++nw)[j]? =some (some A)→(j<bl.length∧bl[j]? =some (some A))∨(∃k,j=bl.length+k∧nw[k]? =some (some A)):=fun j A hj=>by
  rw[List.getElem?_append] at hj;split at hj
  · exact .inl ⟨‹_›,hj⟩
  · exact .inr ⟨j-bl.length,by omega,hj⟩
 refine⟨fun j T cs hj=> ?_,fun i j A B hi hj e=> ?_,fun j A hj=> ?_,fun j T cs hj x hx=> ?_⟩
 · rcases hsp j _ hj with⟨hl,h⟩|⟨k,rfl,h⟩
   · rw[hold j _ h,hp.bw.block _ (hH.lt h),hH.here j T cs h,qBt fun x hx=>(hp.ag x (hH.bd j T cs h x hx)).symm]
   · exact(hp.new k T cs h).2
 · rcases hsp i _ hi with⟨hil,h1⟩|⟨k,rfl,h1⟩<;>rcases hsp j _ hj with⟨hjl,h2⟩|⟨m,rfl,h2⟩
   · exact hH.inj i j A B h1 h2 (by rwa [hold i _ h1,hold j _ h2] at e)
   · have:=hH.lt h1;have:=(hp.new m B.1 B.2 h2).1;rw[hold i _ h1] at e;omega
   · have:=hH.lt h2;have:=(hp.new k A.1 A.2 h1).1;rw[hold j _ h2] at e;omega
   · rw[hp.inj k m A B h1 h2 e]
 · rcases hsp j _ hj with⟨hl,h⟩|⟨k,rfl,h⟩
   · rw[hold j _ h];exact hH.lo j A h
   · exact qA8 hM (hp.new k A.1 A.2 h).1
 · rw[List.length_append]
   rcases hsp j _ hj with⟨hl,h⟩|⟨k,rfl,h⟩
   · have:=hH.bd j T cs h x hx;omega
   · exact hb x (qDE h hx)
theorem qEz (h:Rl w0 we qv ade lo ad σ a w) (hp:Post qv ad σ.bl nw w w' ad') {sl':List SV} {a':Go.Act} (hb:∀x∈refsB nw,x<σ.bl.length+nw.length) (ht:a'.tmps=(sl'.map (vs qv ad')).toArray) (hd:a'.defers=[]) (hs:∀v∈sl',∀j∈v.refs,j<σ.bl.length+nw.length):Rl w0 we qv ade lo ad' ⟨sl',σ.bl++nw⟩ a' w':=by
 have h1:w0.heap.size≤w.heap.size:=h.old.size;have h2:we.heap.size≤w.heap.size:=h.bw.size;refine⟨ht,hd,qJU h.hd hp h1 hb,h.old.trans (hp.bw.mono h1),h.bw.trans (hp.bw.mono h2),fun j A hl hj=> ?_,fun j hj=>(hp.ag j (by have:=h.le;omega)).trans (h.ag j hj),by simp only[List.length_append];have:=h.le;omega,fun v hv j hj=>by simp only[List.length_append];exact hs v hv j hj⟩;rw[List.getElem?_append] at hj;split at hj
 · rw[hp.ag j ‹_›];exact h.own j A hl hj
 · have:=(hp.new (j-σ.bl.length) A.1 A.2 hj).1
   rw[show σ.bl.length+(j-σ.bl.length)=j by omega] at this
   omega
theorem qHA (ht:a.tmps=(σ.sl.map (vs qv ad)).toArray) (op:Op):Agr qv ad (slS σ.sl) a op:=fun x _ v hv=>qD0 (fun t _=>by
 rw[ht];simp only[slS,List.getD_eq_getElem?_getD,Array.getD_eq_getD_getElem?,List.getElem?_toArray,List.getElem?_map]
 cases σ.sl[t]? <;>rfl) hv
theorem qGg (hp:Post qv ad bl nw w w' ad') {sl:List SV} (hs:∀v∈sl,∀j∈v.refs,j<bl.length):sl.map (vs qv ad)=sl.map (vs qv ad'):=
 List.map_congr_left fun v hv=>qB4 fun j hj=>(hp.ag j (hs v hv j hj)).symm
theorem qEh {d:Nat} {sl:List SV} (ht:a.tmps=(sl.map (vs qv ad)).toArray):(a.put (some d) (vs qv ad r)).tmps=((sl.set d r).map (vs qv ad)).toArray:=by
 show a.tmps.setIfInBounds d _=_
 rw[ht,List.map_set];simp
theorem qDw {g k:Nat} {cs:Array Value} (h:k≠g):(w.setRow g cs).heap[k]? =w.heap[k]? :=by
 simp only[World.setRow,Array.getElem?_modify];rw[if_neg (by omega)]
theorem Below.setRow {B g:Nat} {cs:Array Value} (h:Below B we w) (hg:B≤g):Below B we (w.setRow g cs):=
 h.trans ⟨rfl,rfl,rfl,by simp[World.setRow],fun k hk=>qDw (by omega)⟩
theorem u_one (hq:∀k,(qv k).oneCell'=true) {l:List SL} (h:(l.all fun| .u=>false|_=>true)=true):∀v∈l.map (lv qv ad),v.oneCell'=true:=fun v hv=>by
 obtain⟨x,hx,rfl⟩:=List.mem_map.1 hv;have:=List.all_eq_true.1 h x hx
 cases x<;>first|rfl|exact hq _|simp at this
theorem qFS {x v:Operand} {o:Oper} (hq:∀k,(qv k).oneCell'=true) (hR:Rl w0 we qv ade lo ad σ a w) (ho:o.op= .store T x v) (hd:o.dst=none) (h:exSt P lo (slS σ.sl) σ.bl T x v=some bl) (K:Go.Act→World→Prop) (hK:∀w',Rl w0 we qv ade lo ad ⟨σ.sl,bl⟩ a w'→K a w'):o.wp P a w K Q:=by
 have hA:=qHA hR.tm o.op;rw[ho] at hA;unfold exSt at h;split at h
 · rename_i b o' v' hx hv
   split at h
   · rename_i T' cs n hb hs
     split at h
     · rename_i hc
       injection h with h;obtain⟨h1,h2,h3,h4,h5⟩:=hc;have e1:a.eval x= .pointer (some ⟨ad b,o',none⟩):=hA x zD _ hx;have e2:=hA v zD _ hv;have hg:=hR.hd.here b T' cs hb;have hst:=run_storeCells_at P (ad b) o' T' (v'.cells.map (lv qv ad)) 0 _ w hg qK (u_one hq h4);have hcv:=qCx (ad:=ad) hq v';have hlen:b<σ.bl.length:=(qAj.1 hb).1;unfold Oper.wp execOp;rw[ho];have hrow:(List.take (o'+0) (cs.map (lv qv ad)).toArray.toList++v'.cells.map (lv qv ad)++List.drop (o'+0+(v'.cells.map (lv qv ad)).length) (cs.map (lv qv ad)).toArray.toList).toArray=((cs.take o'++v'.cells++cs.drop (o'+n)).map (lv qv ad)).toArray:=by
        simp[h2]
       rw[hrow] at hst;have hsz:(v'.cells.map (lv qv ad)).toArray.size=n:=by simp[h2]
       simp only[e1,e2,Instr.storeAt,Instr.sureAddr,storeVar,Sem.run_bind,Sem.run_pure,Result.andThen_ok,hcv,qCN hs,hsz,ne_eq,not_true_eq_false,if_false,hst];simp only[hd,Oper.upon,Act.put];have hrf:∀y∈refsL (cs.take o'++v'.cells++cs.drop (o'+n)),y<σ.bl.length:=fun y hy=>by
        simp only[List.all_eq_true,decide_eq_true_eq] at h5;simp only[refsL,List.flatMap_append,List.mem_append,List.mem_flatMap] at hy;rcases hy with(⟨k,hk,hy⟩|⟨k,hk,hy⟩)|⟨k,hk,hy⟩
        · exact hR.hd.bd b T' cs hb y (List.mem_flatMap.2 ⟨k,List.mem_of_mem_take hk,hy⟩)
        · exact h5 y (List.mem_flatMap.2 ⟨k,hk,hy⟩)
        · exact hR.hd.bd b T' cs hb y (List.mem_flatMap.2 ⟨k,List.mem_of_mem_drop hk,hy⟩)
       have hset:∀(j:Nat) A,(σ.bl.set b (some (T',cs.take o'++v'.cells++cs.drop (o'+n))))[j]? =some (some A)→(j=b∧A=(T',cs.take o'++v'.cells++cs.drop (o'+n)))∨(j≠b∧σ.bl[j]? =some (some A)):=fun j A hj=>by
        by_cases e:b=j
        · subst e
          rw[List.getElem?_set_self hlen] at hj;injection hj with hj;injection hj with hj;exact .inl ⟨rfl,hj.symm⟩
        · rw[List.getElem?_set_ne e] at hj
          exact .inr ⟨Ne.symm e,hj⟩
       have hvis:∀(j:Nat) A,(σ.bl.set b (some (T',cs.take o'++v'.cells++cs.drop (o'+n))))[j]? =some (some A)→∃B,σ.bl[j]? =some (some B):=fun j A hj=>by
        rcases hset j A hj with⟨rfl,-⟩|⟨-,h⟩
        · exact⟨_,hb⟩
        · exact⟨_,h⟩
       subst h;have hown:=hR.own b _ h1 hb;have hlo:=hR.hd.lo b _ hb;refine hK _ ⟨hR.tm,hR.df,⟨fun j T2 cs2 hj=> ?_,fun i j A B hi hj e=> ?_,fun j A hj=> ?_,fun j T2 cs2 hj y hy=> ?_⟩,Below.setRow hR.old hlo,Below.setRow hR.bw hown,fun j A hl hj=> ?_,hR.ag,by simpa using hR.le,fun u hu j hj=>by simpa using hR.sb u hu j hj⟩
       · rcases hset j _ hj with⟨rfl,e⟩|⟨hne,hj⟩
         · injection e with e1 e2
           subst e1;subst e2;exact setRow_heap w _ _ _ _ _ hg
         · rw[qDw fun e=>hne (hR.hd.inj _ _ _ _ hj hb e)]
           exact hR.hd.here j T2 cs2 hj
       · obtain⟨A',hA'⟩:=hvis i A hi
         obtain⟨B',hB'⟩:=hvis j B hj;exact hR.hd.inj i j A' B' hA' hB' e
       · obtain⟨A',hA'⟩:=hvis j A hj
         exact hR.hd.lo j A' hA'
       · rw[List.length_set]
         rcases hset j _ hj with⟨rfl,e⟩|⟨hne,hj⟩
         · injection e with e1 e2
           subst e2;exact hrf y hy
         · exact hR.hd.bd j T2 cs2 hj y hy
       · obtain⟨A',hA'⟩:=hvis j A hj
         exact hR.own j A' hl hA'
     · cases h
   · cases h
 · cases h
theorem qHD {o:Oper} {b:Bool} (hR:Rl w0 we qv ade lo ad σ a w) (h:wantS ops.toList σ.sl o=some b):Region.wanted o (yielded ops a.tmps)=b:=by
 unfold wantS at h;unfold Region.wanted;split at h
 · rename_i hg
   rw[hg];injection h
 · rename_i j c hg
   rw[hg];split at h
   · rename_i d hd
     split at h
     · rename_i v hv
       split at h
       · rename_i hl
         injection h with h;have e:a.tmps[d]? =some (.bool v):=by
          rw[hR.tm,List.getElem?_toArray,List.getElem?_map];simp only[slS,List.getD_eq_getElem?_getD,List.getElem?_eq_getElem hl,Option.getD_some] at hv;rw[List.getElem?_eq_getElem hl,hv];rfl
         simp only[Array.getElem?_toList] at hd;simp only[yielded,hd,Option.bind_some,e];rw[←h]
         cases v<;>cases c<;>rfl
       · cases h
     · cases h
   · cases h
theorem qEH (hq:∀k,(qv k).oneCell'=true) (hc:CallOK P w0 qv call) (ho:OrcOK P w0 qv orc):∀(l:List Oper) (σ:Sxs) (ad:Nat→Nat) (a:Go.Act) (w:World),exS P orc call lo ops.toList l σ=some σ'→Rl w0 we qv ade lo ad σ a w→(∀ad' a' w',Rl w0 we qv ade lo ad' σ' a' w'→Q .normal a' w')→wpList P ops Q l a w
 |[],σ,ad,a,w,h,hR,hQ=>by
  simp[exS] at h;subst h;exact hQ _ _ _ hR
 |o::l,σ,ad,a,w,h,hR,hQ=>by
  unfold exS at h;refine wpList_step fun K hK=> ?_;split at h
  · cases h
  · rename_i hw
    rw[if_neg (by rw[qHD hR hw];decide)];split at h
    · rename_i d hdst
      split at h
      · have hR':=qEz (nw:=[]) (sl':=σ.sl.set d (.c .u)) (a':=a.put o.dst undef) hR (qC8 rfl) (fun x hx=>by cases hx) (by rw[hdst];exact qEh (r:= .c .u) hR.tm) (by rw[hdst];exact hR.df) fun v hv j hj=>by
         rcases List.mem_or_eq_of_mem_set hv with hv|rfl
         · exact hR.sb v hv j hj
         · cases hj
        rw[List.append_nil] at hR';exact hK _ _ (qEH hq hc ho l _ ad _ w h hR' hQ)
      · cases h
    · rename_i hdst
      rw[hdst];exact hK _ _ (qEH hq hc ho l _ ad _ w h hR hQ)
  · rename_i hw
    rw[if_pos (qHD hR hw)];split at h
    · rename_i T x v hop
      split at h
      · cases h
      · rename_i hdst
        simp only[Option.bind_eq_some_iff] at h;obtain⟨bl,hbl,h⟩:=h;exact qFS hq hR hop (by simpa using hdst) hbl K fun w' hR'=>hK _ _ (qEH hq hc ho l _ ad a w' h hR' hQ)
    · split at h
      · rename_i r nw d he hdst
        split at h
        · rename_i hb
          obtain⟨hdl,hb⟩:=hb;simp only[List.all_eq_true,decide_eq_true_eq,List.mem_append] at hb;refine Oper.wp_mono (fun a' w' q=> ?_) (ex_ok hq hc ho hR.hd hR.old (qHA hR.tm o.op) he);obtain⟨ad',hp,rfl⟩:=q;refine hK _ _ (qEH hq hc ho l _ ad' _ w' h (qEz hR hp (fun x hx=>hb x (.inr hx)) ?_ ?_ fun v hv j hj=> ?_) hQ)
          · rw[hdst]
            exact qEh (by rw[hR.tm,qGg hp hR.sb])
          · rw[hdst];exact hR.df
          · rcases List.mem_or_eq_of_mem_set hv with hv|rfl
            · have:=hR.sb v hv j hj;omega
            · exact hb j (.inl hj)
        · cases h
      · cases h
end
end Go.Proofs.YtelceoecekfamaaGreat
