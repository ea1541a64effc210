/-
Sxb Rgt Sxc Sxd Sxe
-/
import Derived.Test.YtgdbhanhmenmfaaGreatQ27
set_option linter.unusedSimpArgs false
set_option linter.unusedVariables false
namespace Go.Proofs.YtgdbhanhmenmfaaGreat
open Go.RowKit
variable {T:Nat}{cs:List SL}{i j n:Nat}{nws:List Bk}{o:Oper}{sl:List SV}
structure Held (M:Nat) (qv:Nat→Value) (ad:Nat→Nat) (bl:List Bk) (w:World):Prop where
 here:∀(j T:Nat) (cs:List SL),bl[j]? =some (some (T,cs))→w.heap[ad j]? =some (.cells (cs.map (lv qv ad)).toArray T (0,0))
 inj:∀(i j:Nat) A B,bl[i]? =some (some A)→bl[j]? =some (some B)→ad i=ad j→i=j
 lo:∀(j:Nat) A,bl[j]? =some (some A)→M≤ad j
 bd:∀(j T:Nat) (cs:List SL),bl[j]? =some (some (T,cs))→∀r∈refsL cs,r<bl.length
def newV (nb:Nat):Option Nat→SV
 |none=> .c (.p nb 0)|some n=> .c (.s nb 0 n n)
def newA (g:Nat):Option Nat→Value
 |none=> .pointer (some ⟨g,0,none⟩)|some n=> .slice (some ⟨g,0,none⟩) n n
section
variable {P:Program} {qv:Nat→Value} {ad:Nat→Nat} {ρ:Nat→SV} {M:Nat} {bl:List Bk} {w:World} {a:Go.Act} {o:Oper}
theorem lv_one (hq:∀k,(qv k).oneCell'=true) (x:SL):(lv qv ad x).cells= #[lv qv ad x]:=by
 cases x<;>try rfl
 case q k=>
  have:=hq k;simp only[lv]
  cases h:qv k<;>first|rfl|(rw[h] at this;simp[Value.oneCell'] at this)
theorem qEh (hq:∀k,(qv k).oneCell'=true) (v:SV):(vs qv ad v).cells=(v.cells.map (lv qv ad)).toArray:=qMm fun x _=>lv_one hq x
theorem qF5 {place:Nat→Option (Nat×Nat)} (hq:∀k,(qv k).oneCell'=true):∀(ps:List (Nat×Operand)) (l:List (Nat×List SL)) (cs r:List SL),(∀x∈ps,∀v,opv ρ x.2=some v→a.eval x.2=vs qv ad v)→partsS ρ ps=some l→fillS place cs l=some r→
 Instr.fill place (cs.map (lv qv ad)).toArray (ps.map fun x=>(x.1,a.eval x.2))=some (r.map (lv qv ad)).toArray
 |[],l,cs,r,_,h1,h2=>by
  simp[partsS] at h1;subst h1;simp[fillS] at h2;subst h2
  rfl
 |(i,x)::ps,l,cs,r,hA,h1,h2=>by
  simp only[partsS,List.mapM_cons,Option.bind_eq_bind,Option.bind_eq_some_iff,Option.pure_def,Option.some.injEq,Option.map_eq_some_iff] at h1;obtain⟨_,⟨v,hv,rfl⟩,l',hl',rfl⟩:=h1;have e:=hA (i,x) (by simp) v hv;simp only at e;have ih:=fun cs r h2=>qF5 (place:=place) hq ps l' cs r (fun y hy=>hA y (by simp[hy])) hl' h2;simp only[fillS] at h2;simp only[List.map_cons,Instr.fill,e,qEh hq v]
  cases hp:place i with
  |none=>rw[hp] at h2;cases h2
  |some os=>
   obtain⟨off,size⟩:=os;rw[hp] at h2;simp only at h2;split at h2
   · cases h2
   · rename_i hc
     have hc':¬((List.map (lv qv ad) v.cells).toArray.size≠size || decide (off+(List.map (lv qv ad) v.cells).toArray.size>(List.map (lv qv ad) cs).toArray.size))=true:=by simpa using hc
     simp only;rw[if_neg hc'];have:=ih _ _ h2;rw[qH8] at this;rw[←this]
     congr 1
     have h3:=qGZ (v.cells.map (lv qv ad)) (cs.map (lv qv ad)).toArray off 0;simp only[Nat.add_zero] at h3;rw[←h3,←Array.foldl_toList];simp
theorem row_run (hH:Held M qv ad bl w) {o:Nat} (hj:bl[j]? =some (some (T,cs))) (hn:o+n≤cs.length):w.rangeAt (ad j) o (((cs.drop o).take n).map (lv qv ad)):=fun k v hv=>by
 simp only[World.cell?,hH.here j T cs hj];simp only[List.getElem?_map,List.getElem?_take,List.getElem?_drop,Option.map_eq_some_iff] at hv;obtain⟨x,hx,rfl⟩:=hv;split at hx
 · simp[hx]
 · cases hx
theorem qNh (hH:Held M qv ad bl w) {t o:Nat} {d:TypeDesc} (hj:bl[j]? =some (some (T,cs))) (hu:P.underlying t=some d) (hs:szT P t=some n) {r:SV}
 (h:(if d.isRow then if o+n≤cs.length then some (RS.val (.a ((cs.drop o).take n))) else none else cs[o]?.map fun c=>RS.val (.c c))=some (.val r)):
 (Instr.loadAt t (.pointer (some ⟨ad j,o,none⟩))).run P w= .ok (vs qv ad r) w:=by
 split at h
 · rename_i hd
   split at h
   · rename_i hn
     injection h with h;injection h with h;subst h;have:=run_loadAt_mid (P:=P) w (ad j) o t _ d (row_run hH hj hn) hu hd (by rw[show(P.info? t).map (·.size)=some n from hs];simp;omega);rw[this]
     rfl
   · cases h
 · rename_i hd
   simp only[Option.map_eq_some_iff] at h;obtain⟨c,hc,h⟩:=h;injection h with h;subst h;have hcell:w.cell? ⟨ad j,o,none⟩=some (lv qv ad c):=by simp[World.cell?,hH.here j T cs hj,hc]
   have hagg:(isAgg t).run P w= .ok false w:=by
    unfold isAgg;rw[Sem.run_bind,run_underlying hu w]
    cases d<;>simp_all
   simp[Instr.loadAt,Instr.sureAddr,loadVar,hagg,load,Sem.run,hcell,vs]
theorem qLH {t:Nat} {l:List SL} (h:zerS P t=some l):∃i z,P.info? t=some i∧i.zero=some z∧z.cells=(l.map (lv qv ad)).toArray:=by
 unfold zerS at h;simp only[Option.bind_eq_some_iff] at h;obtain⟨v,⟨i,hi,hz⟩,hl⟩:=h;exact⟨i,v,hi,hz,by rw[qFb hl]⟩
theorem qHe (hq:∀k,(qv k).oneCell'=true) (hH:Held M qv ad bl w) (hA:Agr qv ad ρ a o.op) {R:RS} (h:ex0 P ρ bl o.op=some R):
 (∃r,R= .val r∧(execOp a.eval o).run P w= .ok (.value (vs qv ad r)) w)∨(∃T cs n,R= .new T cs n∧(execOp a.eval o).run P w= .ok (.value (newA w.heap.size n)) (w.alloc (.cells (cs.map (lv qv ad)).toArray T))):=by
 unfold execOp;unfold Agr at hA;generalize o.op=op at h hA;unfold ex0 at h;split at h
 · simp only[Option.map_eq_some_iff] at h
   obtain⟨v,hv,rfl⟩:=h;exact .inl ⟨v,rfl,by simp[hA _ zQ v hv]⟩
 · simp only[Option.map_eq_some_iff] at h
   obtain⟨v,hv,rfl⟩:=h;exact .inl ⟨v,rfl,by simp[hA _ zQ v hv]⟩
 · simp only[Option.map_eq_some_iff] at h
   obtain⟨l,hl,rfl⟩:=h;obtain⟨z,hz,hc⟩:=qHs (ad:=ad) (qv:=qv) (w:=w) hl;exact .inr ⟨_,_,_,rfl,by simp[Instr.alloc,hz,newVar,newRow,hc,newA]⟩
 · simp only[Option.map_eq_some_iff] at h
   obtain⟨v,hv,rfl⟩:=h;exact .inr ⟨_,_,_,rfl,by simp[hA _ zQ v hv,Instr.box,newVar,newRow,qEh hq v,newA]⟩
 · rename_i T ps
   split at h
   · rename_i fs z l hu hz hl
     simp only[Option.bind_eq_some_iff,Option.map_eq_some_iff] at h;obtain⟨pl,hpl,cs,hcs,rfl⟩:=h;obtain⟨i,z',hi,hz',hzc⟩:=qLH (ad:=ad) (qv:=qv) hz;have hf:=qF5 (ad:=ad) (qv:=qv) (a:=a) (ρ:=ρ) hq ps.toList l z cs (fun x hx v hv=>hA x.2 (by simp only[Op.operands];exact List.mem_toArray.2 (List.mem_map.2 ⟨x,hx,rfl⟩)) v hv) hl hcs;have hb:P.built T (ps.map fun(i,x)=>(i,a.eval x)).toList=some (cs.map (lv qv ad)).toArray:=by
      simp only[Program.built,hi,hu,hz',hpl,hzc];simpa using hf
     exact .inl ⟨_,rfl,by simp only[Sem.run_bind,run_build w T _ _ hb,Result.andThen_ok];rfl⟩
   · cases h
 · rename_i T len ps
   split at h
   · rename_i e hu
     split at h
     · rename_i m z l hm hz hl
       split at h
       · rename_i hlim
         simp only[Option.map_eq_some_iff] at h;obtain⟨cs,hcs,rfl⟩:=h;have hf:=qF5 (ad:=ad) (qv:=qv) (a:=a) (ρ:=ρ) hq ps.toList l _ cs (fun x hx v hv=>hA x.2 (by simp only[Op.operands];exact List.mem_toArray.2 (List.mem_map.2 ⟨x,hx,rfl⟩)) v hv) hl hcs;obtain⟨z',hz',hzc⟩:=qHs (ad:=ad) (qv:=qv) (w:=w) hz;obtain⟨h1,h2,h3⟩:=hlim;have he:((Array.range (len*m)).map fun k=>(z'.cells)[k % z'.cells.size]!)=(((List.range (len*m)).map fun k=>z.getD (k % z.length) .u).map (lv qv ad)).toArray:=by
          apply Array.ext'
          simp only[Array.toList_map,Array.toList_range,List.map_map];refine List.map_congr_left fun k _=> ?_;have hk:k % z.length<z.length:=Nat.mod_lt _ (by omega);simp[hzc,Function.comp,hk,List.getD_eq_getElem?_getD]
         rw[←he] at hf;refine .inr ⟨_,_,_,rfl,?_⟩;have hp:(ps.map fun(i,x)=>(i,a.eval x)).toList=ps.toList.map fun x=>(x.1,a.eval x.2):=by simp
         simp only[Instr.buildSlice,Sem.run_bind,run_underlying hu,qEL hm,Result.andThen_ok,if_neg h2,hz',hp];rw[if_neg (by omega)];simp only[Sem.run_bind,Result.andThen_ok,Sem.run_pure,hf,hz',newRow,run_newObj,newA]
         rfl
       · cases h
     · cases h
   · cases h
 · rename_i T x
   split at h
   · rename_i b o hx
     split at h
     · rename_i T' cs d n hb hu hs
       have hl:=fun r=>qNh (P:=P) (r:=r) (o:=o) hH hb hu hs;have e:=hA x zQ _ hx
       cases R with
       |val r=>exact .inl ⟨r,rfl,by simp[e,vs,lv,hl r h]⟩
       |new _ _ _=>
        exfalso;split at h
        · split at h<;>cases h
        · simp[Option.map_eq_some_iff] at h
     · cases h
   · cases h
 · rename_i T x f
   split at h
   · rename_i b o fs hx hu
     have e:=hA x zQ _ hx;split at h
     · rename_i off n hp
       injection h with h;subst h;simp only[placeS,Option.bind_eq_some_iff,Option.map_eq_some_iff,Prod.mk.injEq] at hp;obtain⟨fd,hfd,m,hm,rfl,rfl⟩:=hp;refine .inl ⟨_,rfl,?_⟩;have hadd:(⟨ad b,o,none⟩:Addr).add fd.offset=⟨ad b,o+fd.offset,none⟩:=Addr.add_mid _ _ _;simp[e,vs,lv,Instr.fieldAt,run_underlying hu,hfd,Instr.sureAddr,fieldPlace,qEL hm,hadd]
     · cases h
   · cases h
 · rename_i T x f
   split at h
   · rename_i l fs hx hu
     have e:=hA x zQ _ hx;split at h
     · rename_i fd hfd
       split at h
       · rename_i d c hd hc
         split at h
         · cases h
         · rename_i hr
           injection h with h;subst h;have hagg:(isAgg fd.type).run P w= .ok false w:=by
            unfold isAgg;rw[Sem.run_bind,run_underlying hd w]
            cases d<;>simp_all
           exact .inl ⟨_,rfl,by simp[e,vs,Instr.field,run_underlying hu,hfd,asAgg,part,hagg,hc]⟩
       · cases h
     · cases h
   · cases h
 · rename_i op T x y T'
   split at h
   · rename_i k n k' n' hx hy
     have e1:=hA x zQ _ hx;have e2:=hA y zQ _ hy;split at h
     · rename_i hk
       subst hk;simp only[vs,lv] at e1 e2;split at h<;>first
        |cases h;done
        |(injection h with h;subst h;exact .inl ⟨_,rfl,by simp[e1,e2,eqGuard,binOp,Op.intCmp,vs,lv]⟩)
     · cases h
   · cases h
 · cases h
end
section
variable {P:Program} {a:Go.Act} {w w':World} {o:Oper} {K:Go.Act→World→Prop} {Q:Exit→Go.Act→World→Prop} {v:Value}
theorem call_in {f:FuncId} {fn:Func} (hf:P.funcs[f]? =some fn) (hname:(fn.name=="runtime.NumGoroutine")=false) (hb:fn.body.isSome=true) (args:Array Value) (w:World):(callFunc f args).run P w= .ok (.enter f args) w:=by
 have hne:¬fn.name="runtime.NumGoroutine":=by simpa using hname
 obtain⟨c,hc⟩:=Option.isSome_iff_exists.1 hb;simp[callFunc,hf,hc,hne]
theorem op_call {f:FuncId} {xs:Array Operand} {ts:Array TypeId} {vs:Array Value} (ho:o.op= .call {callee:= .value (.func f),args:=xs,argTypes:=ts}) (hx:xs.map a.eval=vs) (hf:∀vs w,(callFunc f vs).run P w= .ok (.enter f vs) w) (hc:Calls P f vs w fun e w'=>∃v,e= .returned v∧K (a.put o.dst v) w'):o.wp P a w K Q:=by
 unfold Oper.wp execOp;rw[ho];simp only[resolve,invoke,Act.eval,hx,Sem.run_bind,Sem.run_pure,Result.andThen_ok,Deferred.ofValue,Array.append_empty,Array.empty_append,hf,Oper.upon];exact Calls.mono hc fun e w' q=>by obtain⟨v,rfl,hk⟩:=q;exact hk
end
abbrev Cal:=Nat→List SV→List Bk→Option (SV×List Bk)
def refsB (nw:List Bk):List Nat:=nw.flatMap fun|some x=>refsL x.2|none=>[]
def ex (P:Program) (orc:Op→List SV→Option SV) (call:Cal) (ρ:Nat→SV) (bl:List Bk) (op:Op):Option (SV×List Bk):=
 match (op.operands.toList.mapM (opv ρ)).bind (orc op) with
 |some r=>some (r,[])
 |none=>match op with
  | .call c=>match c.callee with
    | .value (.func f)=>(c.args.toList.mapM (opv ρ)).bind fun l=>if l.all fun v=>v.refs.all (·<bl.length) then call f l bl else none
    |_=>none
  |op=>match ex0 P ρ bl op with
   |some (.val r)=>some (r,[])
   |some (.new T cs n)=>if (refsL cs).all (·<bl.length) then some (newV bl.length n,[some (T,cs)]) else none
   |none=>none
structure Sxs where
 sl:List SV
 bl:List Bk
def exSt (P:Program) (lo:Nat) (ρ:Nat→SV) (bl:List Bk) (T:Nat) (x v:Operand):Option (List Bk):=match opv ρ x,opv ρ v with
 |some (.c (.p b o)),some v=>match bl[b]?,szT P T with
  |some (some (T',cs)),some n=>if lo≤b∧v.cells.length=n∧o+n≤cs.length∧(v.cells.all fun| .u=>false|_=>true)∧(refsL v.cells).all (·<bl.length) then some (bl.set b (some (T',cs.take o++v.cells++cs.drop (o+n)))) else none
  |_,_=>none
 |_,_=>none
def slS (sl:List SV) (t:Nat):SV:=sl.getD t (.c .u)
def exS (P:Program) (orc:Op→List SV→Option SV) (call:Cal) (lo:Nat):List Oper→Sxs→Option Sxs
 |[],σ=>some σ
 |o::l,σ=>if o.guard.isSome then none else match o.op with
  | .store T x v=>if o.dst.isSome then none else (exSt P lo (slS σ.sl) σ.bl T x v).bind fun bl=>exS P orc call lo l ⟨σ.sl,bl⟩
  |op=>match ex P orc call (slS σ.sl) σ.bl op,o.dst with
   |some (r,nw),some d=>if d<σ.sl.length∧(r.refs++refsB nw).all (·<σ.bl.length+nw.length) then exS P orc call lo l ⟨σ.sl.set d r,σ.bl++nw⟩ else none
   |_,_=>none
structure Post (qv:Nat→Value) (ad:Nat→Nat) (bl nw:List Bk) (w w':World) (ad':Nat→Nat):Prop where
 ag:∀j:Nat,j<bl.length→ad' j=ad j
 bw:Below w.heap.size w w'
 new:∀(j T:Nat) (cs:List SL),nw[j]? =some (some (T,cs))→w.heap.size≤ad' (bl.length+j)∧w'.heap[ad' (bl.length+j)]? =some (.cells (cs.map (lv qv ad')).toArray T (0,0))
 inj:∀(i j:Nat) A B,nw[i]? =some (some A)→nw[j]? =some (some B)→ad' (bl.length+i)=ad' (bl.length+j)→i=j
def Callee (P:Program) (f:Nat):Prop:=∃fn,P.funcs[f]? =some fn∧(fn.name=="runtime.NumGoroutine")=false∧fn.body.isSome=true
def CallOK (P:Program) (w0:World) (qv:Nat→Value) (call:Cal):Prop:=∀f l bl r nw,call f l bl=some (r,nw)→Callee P f∧∀ad w,Held w0.heap.size qv ad bl w→Below w0.heap.size w0 w→(∀v∈l,∀j∈v.refs,j<bl.length)→
 Calls P f (l.map (vs qv ad)).toArray w fun e w'=>∃ad',Post qv ad bl nw w w' ad'∧e= .returned (vs qv ad' r)
def OrcOK (P:Program) (w0:World) (qv:Nat→Value) (orc:Op→List SV→Option SV):Prop:=∀(o:Oper) l r,orc o.op l=some r→∀ad (a:Go.Act) w,o.op.operands.toList.map a.eval=l.map (vs qv ad)→Below w0.heap.size w0 w→(execOp a.eval o).run P w= .ok (.value (vs qv ad r)) w
section
variable {P:Program} {qv:Nat→Value} {ad ad':Nat→Nat} {ρ:Nat→SV} {M:Nat} {bl nw:List Bk} {w w' w0:World} {a:Go.Act} {o:Oper} {orc:Op→List SV→Option SV} {call:Cal} {r:SV}
theorem qEr {l:List SV}:∀{xs:List Operand},(∀x∈xs,∀v,opv ρ x=some v→a.eval x=vs qv ad v)→xs.mapM (opv ρ)=some l→xs.map a.eval=l.map (vs qv ad)
 |[],_,h=>by simp at h;subst h;rfl
 |x::xs,hA,h=>by
  simp only[List.mapM_cons,Option.bind_eq_bind,Option.bind_eq_some_iff,Option.pure_def,Option.some.injEq] at h;obtain⟨v,hv,l',hl',rfl⟩:=h;simp only[List.map_cons,hA x (by simp) v hv,qEr (fun y hy=>hA y (by simp[hy])) hl']
theorem qGg (hw:w'=w):Post qv ad bl [] w w' ad:=by
 subst hw;exact⟨fun _ _=>rfl,qBO _ _,fun j T cs h=>by simp at h,fun i j A B h=>by simp at h⟩
theorem qNG (h:∀j∈refsL cs,j<bl.length):Post qv ad bl [some (T,cs)] w (w.alloc (.cells (cs.map (lv qv ad)).toArray T)) (fun j=>if j=bl.length then w.heap.size else ad j):=by
 refine⟨fun j hj=>if_neg (by omega),(qBO _ _).alloc (qBL _) _,fun j T' cs' hj=> ?_,fun i j A B hi hj _=> ?_⟩
 · cases j with
   |succ j=>simp at hj
   |zero=>
    simp at hj;obtain⟨rfl,rfl⟩:=hj;simp only[Nat.add_zero,if_true];refine⟨qBL _,?_⟩;rw[qCy (ad:=fun j=>if j=bl.length then w.heap.size else ad j) (ad':=ad) fun j hj=>if_neg (by have:=h j hj;omega)]
    show(w.heap.push _)[w.heap.size]? =_
    simp
 · cases i<;>cases j<;>simp at hi hj<;>rfl
theorem ex_ok {Q:Exit→Go.Act→World→Prop} (hq:∀k,(qv k).oneCell'=true) (hc:CallOK P w0 qv call) (ho:OrcOK P w0 qv orc) (hH:Held w0.heap.size qv ad bl w) (hO:Below w0.heap.size w0 w) (hA:Agr qv ad ρ a o.op) (h:ex P orc call ρ bl o.op=some (r,nw)):
 o.wp P a w (fun a' w'=>∃ad',Post qv ad bl nw w w' ad'∧a'=a.put o.dst (vs qv ad' r)) Q:=by
 have fin:∀{v W} ad',(execOp a.eval o).run P w= .ok (.value v) W→Post qv ad bl nw w W ad'→v=vs qv ad' r→o.wp P a w (fun a' w'=>∃ad',Post qv ad bl nw w w' ad'∧a'=a.put o.dst (vs qv ad' r)) Q:=fun ad' hr hp hv=>by
  unfold Oper.wp;rw[hr];exact⟨ad',hp,by rw[hv]⟩
 unfold ex at h;split at h
 · rename_i v hv
   injection h with h;injection h with h1 h2;subst h1;subst h2;simp only[Option.bind_eq_some_iff] at hv;obtain⟨l,hl,hv⟩:=hv;exact fin ad (ho o l _ hv ad a w (qEr (fun x hx=>hA x (by simpa using hx)) hl) hO) (qGg rfl) rfl
 · split at h
   · rename_i c hop
     split at h
     · rename_i f hcal
       simp only[Option.bind_eq_some_iff] at h;obtain⟨l,hl,h⟩:=h;split at h
       · rename_i hb
         obtain⟨⟨fn,hf,h1,h2⟩,hC⟩:=hc f l bl r nw h;have hx:c.args.toList.map a.eval=l.map (vs qv ad):=qEr (fun x hx=>hA x (by rw[hop];simp[Op.operands,Call.operands];exact .inr (by simpa using hx))) hl;have hx':c.args.map a.eval=(l.map (vs qv ad)).toArray:=Array.ext' (by rw[Array.toList_map,hx]);obtain⟨cal,cargs,cts⟩:=c;simp only at hcal;subst hcal;refine op_call hop hx' (fun vs w=>call_in hf h1 h2 vs w) ((hC ad w hH hO fun v hv j hj=> ?_).mono fun e w' ⟨ad',hp,he⟩=>⟨_,he,ad',hp,rfl⟩);simp only[List.all_eq_true,decide_eq_true_eq] at hb;exact hb v hv j hj
       · cases h
     · cases h
   · split at h
     · rename_i v hv
       injection h with h;injection h with h1 h2;subst h1;subst h2;rcases qHe hq hH hA hv with⟨r',e,hr⟩|⟨T,cs,n,e,hr⟩
       · injection e with e;subst e
         exact fin ad hr (qGg rfl) rfl
       · cases e
     · rename_i T cs n hv
       split at h
       · rename_i hb
         injection h with h;injection h with h1 h2;subst h1;subst h2;rcases qHe hq hH hA hv with⟨r',e,hr⟩|⟨T',cs',n',e,hr⟩
         · cases e
         · injection e with e1 e2 e3;subst e1;subst e2;subst e3
           simp only[List.all_eq_true,decide_eq_true_eq] at hb;refine fin _ hr (qNG hb) ?_
           cases n<;>simp[newA,newV,vs,lv]
       · cases h
     · cases h
end
structure Rl (w0 we:World) (qv:Nat→Value) (ade:Nat→Nat) (lo:Nat) (ad:Nat→Nat) (σ:Sxs) (a:Go.Act) (w:World):Prop where
 tm:a.tmps=(σ.sl.map (vs qv ad)).toArray
 df:a.defers=[]
 hd:Held w0.heap.size qv ad σ.bl w
 old:Below w0.heap.size w0 w
 bw:Below we.heap.size we w
 own:∀(j:Nat) A,lo≤j→σ.bl[j]? =some (some A)→we.heap.size≤ad j
 ag:∀j,j<lo→ad j=ade j
 le:lo≤σ.bl.length
 sb:∀v∈σ.sl,∀j∈v.refs,j<σ.bl.length
section
variable {P:Program} {qv:Nat→Value} {ad ad' ade:Nat→Nat} {M lo:Nat} {bl nw:List Bk} {w w' w0 we:World} {a:Go.Act} {orc:Op→List SV→Option SV} {call:Cal} {r:SV} {σ σ':Sxs} {ops:Array Oper} {Q:Exit→Go.Act→World→Prop}
theorem Held.lt (h:Held M qv ad bl w) {A:Nat×List SL} (hj:bl[j]? =some (some A)):ad j<w.heap.size:=
 (Array.getElem?_eq_some_iff.1 (h.here j A.1 A.2 hj)).1
theorem qEs (h:nw[j]? =some (some (T,cs))) {x:Nat} (hx:x∈refsL cs):x∈refsB nw:=
 List.mem_flatMap.2 ⟨_,qBQ h,hx⟩
theorem qOA (hH:Held M qv ad bl w) (hp:Post qv ad bl nw w w' ad') (hM:M≤w.heap.size) (hb:∀x∈refsB nw,x<bl.length+nw.length):Held M qv ad' (bl++nw) w':=by
 have hold:∀(j:Nat) A,bl[j]? =some (some A)→ad' j=ad j:=fun j A hj=>hp.ag j (qBM.1 hj).1;have hsp:∀(j:Nat) A,(bl++nw)[j]? =some (some A)→(j<bl.length∧bl[j]? =some (some A))∨(∃k,j=bl.length+k∧nw[k]? =some (some A)):=fun j A hj=>by
  rw[List.getElem?_append] at hj;split at hj
  · exact .inl ⟨‹_›,hj⟩
  · exact .inr ⟨j-bl.length,by omega,hj⟩
 refine⟨fun j T cs hj=> ?_,fun i j A B hi hj e=> ?_,fun j A hj=> ?_,fun j T cs hj x hx=> ?_⟩
 · rcases hsp j _ hj with⟨hl,h⟩|⟨k,rfl,h⟩
   · rw[hold j _ h,hp.bw.block _ (hH.lt h),hH.here j T cs h,qCy fun x hx=>(hp.ag x (hH.bd j T cs h x hx)).symm]
   · exact(hp.new k T cs h).2
 · rcases hsp i _ hi with⟨hil,h1⟩|⟨k,rfl,h1⟩<;>rcases hsp j _ hj with⟨hjl,h2⟩|⟨m,rfl,h2⟩
   · exact hH.inj i j A B h1 h2 (by rwa [hold i _ h1,hold j _ h2] at e)
   · have:=hH.lt h1;have:=(hp.new m B.1 B.2 h2).1;rw[hold i _ h1] at e;omega
   · have:=hH.lt h2;have:=(hp.new k A.1 A.2 h1).1;rw[hold j _ h2] at e;omega
   · rw[hp.inj k m A B h1 h2 e]
 · rcases hsp j _ hj with⟨hl,h⟩|⟨k,rfl,h⟩
   · rw[hold j _ h];exact hH.lo j A h
   · exact qBZ hM (hp.new k A.1 A.2 h).1
 · rw[List.length_append]
   rcases hsp j _ hj with⟨hl,h⟩|⟨k,rfl,h⟩
   · have:=hH.bd j T cs h x hx;omega
   · exact hb x (qEs h hx)
theorem qKq (h:Rl w0 we qv ade lo ad σ a w) (hp:Post qv ad σ.bl nw w w' ad') {sl':List SV} {a':Go.Act} (hb:∀x∈refsB nw,x<σ.bl.length+nw.length) (ht:a'.tmps=(sl'.map (vs qv ad')).toArray) (hd:a'.defers=[]) (hs:∀v∈sl',∀j∈v.refs,j<σ.bl.length+nw.length):Rl w0 we qv ade lo ad' ⟨sl',σ.bl++nw⟩ a' w':=by
 have h1:w0.heap.size≤w.heap.size:=h.old.size;have h2:we.heap.size≤w.heap.size:=h.bw.size;refine⟨ht,hd,qOA h.hd hp h1 hb,h.old.trans (hp.bw.mono h1),h.bw.trans (hp.bw.mono h2),fun j A hl hj=> ?_,fun j hj=>(hp.ag j (by have:=h.le;omega)).trans (h.ag j hj),by simp only[List.length_append];have:=h.le;omega,fun v hv j hj=>by simp only[List.length_append];exact hs v hv j hj⟩;rw[List.getElem?_append] at hj;split at hj
 · rw[hp.ag j ‹_›];exact h.own j A hl hj
 · have:=(hp.new (j-σ.bl.length) A.1 A.2 hj).1
   rw[show σ.bl.length+(j-σ.bl.length)=j by omega] at this
   omega
theorem qKc (ht:a.tmps=(σ.sl.map (vs qv ad)).toArray) (op:Op):Agr qv ad (slS σ.sl) a op:=fun x _ v hv=>qFl (fun t _=>by
 rw[ht];simp only[slS,List.getD_eq_getElem?_getD,Array.getD_eq_getD_getElem?,List.getElem?_toArray,List.getElem?_map]
 cases σ.sl[t]? <;>rfl) hv
theorem qJm (hp:Post qv ad bl nw w w' ad') (hs:∀v∈sl,∀j∈v.refs,j<bl.length):sl.map (vs qv ad)=sl.map (vs qv ad'):=
 List.map_congr_left fun v hv=>qDo fun j hj=>(hp.ag j (hs v hv j hj)).symm
theorem qLY {d:Nat} (ht:a.tmps=(sl.map (vs qv ad)).toArray):(a.put (some d) (vs qv ad r)).tmps=((sl.set d r).map (vs qv ad)).toArray:=by
 show a.tmps.setIfInBounds d _=_
 rw[ht,List.map_set];simp
theorem qFf {g k:Nat} {cs:Array Value} (h:k≠g):(w.setRow g cs).heap[k]? =w.heap[k]? :=by
 simp only[World.setRow,Array.getElem?_modify];rw[if_neg (by omega)]
theorem Below.setRow {B g:Nat} {cs:Array Value} (h:Below B we w) (hg:B≤g):Below B we (w.setRow g cs):=
 h.trans ⟨rfl,rfl,rfl,by simp[World.setRow],fun k hk=>qFf (by omega)⟩
theorem u_one (hq:∀k,(qv k).oneCell'=true) {l:List SL} (h:(l.all fun| .u=>false|_=>true)=true):∀v∈l.map (lv qv ad),v.oneCell'=true:=fun v hv=>by
 obtain⟨x,hx,rfl⟩:=List.mem_map.1 hv;have:=List.all_eq_true.1 h x hx
 cases x<;>first|rfl|exact hq _|simp at this
theorem qH5 {x v:Operand} (hq:∀k,(qv k).oneCell'=true) (hR:Rl w0 we qv ade lo ad σ a w) (ho:o.op= .store T x v) (hd:o.dst=none) (h:exSt P lo (slS σ.sl) σ.bl T x v=some bl) (K:Go.Act→World→Prop) (hK:∀w',Rl w0 we qv ade lo ad ⟨σ.sl,bl⟩ a w'→K a w'):o.wp P a w K Q:=by
 have hA:=qKc hR.tm o.op;rw[ho] at hA;unfold exSt at h;split at h
 · rename_i b o' v' hx hv
   split at h
   · rename_i T' cs n hb hs
     split at h
     · rename_i hc
       injection h with h;obtain⟨h1,h2,h3,h4,h5⟩:=hc;have e1:a.eval x= .pointer (some ⟨ad b,o',none⟩):=hA x zQ _ hx;have e2:=hA v zQ _ hv;have hg:=hR.hd.here b T' cs hb;have hst:=run_storeCells_at P (ad b) o' T' (v'.cells.map (lv qv ad)) 0 _ w hg qK (u_one hq h4);have hcv:=qEh (ad:=ad) hq v';have hlen:b<σ.bl.length:=(qBM.1 hb).1;unfold Oper.wp execOp;rw[ho];have hrow:(List.take (o'+0) (cs.map (lv qv ad)).toArray.toList++v'.cells.map (lv qv ad)++List.drop (o'+0+(v'.cells.map (lv qv ad)).length) (cs.map (lv qv ad)).toArray.toList).toArray=((cs.take o'++v'.cells++cs.drop (o'+n)).map (lv qv ad)).toArray:=by
        simp[h2]
       rw[hrow] at hst;have hsz:(v'.cells.map (lv qv ad)).toArray.size=n:=by simp[h2]
       simp only[e1,e2,Instr.storeAt,Instr.sureAddr,storeVar,Sem.run_bind,Sem.run_pure,Result.andThen_ok,hcv,qEL hs,hsz,ne_eq,not_true_eq_false,if_false,hst];simp only[hd,Oper.upon,Act.put];have hrf:∀y∈refsL (cs.take o'++v'.cells++cs.drop (o'+n)),y<σ.bl.length:=fun y hy=>by
        simp only[List.all_eq_true,decide_eq_true_eq] at h5;simp only[refsL,List.flatMap_append,List.mem_append,List.mem_flatMap] at hy;rcases hy with(⟨k,hk,hy⟩|⟨k,hk,hy⟩)|⟨k,hk,hy⟩
        · exact hR.hd.bd b T' cs hb y (List.mem_flatMap.2 ⟨k,List.mem_of_mem_take hk,hy⟩)
        · exact h5 y (List.mem_flatMap.2 ⟨k,hk,hy⟩)
        · exact hR.hd.bd b T' cs hb y (List.mem_flatMap.2 ⟨k,List.mem_of_mem_drop hk,hy⟩)
       have hset:∀(j:Nat) A,(σ.bl.set b (some (T',cs.take o'++v'.cells++cs.drop (o'+n))))[j]? =some (some A)→(j=b∧A=(T',cs.take o'++v'.cells++cs.drop (o'+n)))∨(j≠b∧σ.bl[j]? =some (some A)):=fun j A hj=>by
        by_cases e:b=j
        · subst e
          rw[List.getElem?_set_self hlen] at hj;injection hj with hj;injection hj with hj;exact .inl ⟨rfl,hj.symm⟩
        · rw[List.getElem?_set_ne e] at hj
          exact .inr ⟨Ne.symm e,hj⟩
       have hvis:∀(j:Nat) A,(σ.bl.set b (some (T',cs.take o'++v'.cells++cs.drop (o'+n))))[j]? =some (some A)→∃B,σ.bl[j]? =some (some B):=fun j A hj=>by
        rcases hset j A hj with⟨rfl,-⟩|⟨-,h⟩
        · exact⟨_,hb⟩
        · exact⟨_,h⟩
       subst h;have hown:=hR.own b _ h1 hb;have hlo:=hR.hd.lo b _ hb;refine hK _ ⟨hR.tm,hR.df,⟨fun j T2 cs2 hj=> ?_,fun i j A B hi hj e=> ?_,fun j A hj=> ?_,fun j T2 cs2 hj y hy=> ?_⟩,Below.setRow hR.old hlo,Below.setRow hR.bw hown,fun j A hl hj=> ?_,hR.ag,by simpa using hR.le,fun u hu j hj=>by simpa using hR.sb u hu j hj⟩
       · rcases hset j _ hj with⟨rfl,e⟩|⟨hne,hj⟩
         · injection e with e1 e2
           subst e1;subst e2;exact setRow_heap w _ _ _ _ _ hg
         · rw[qFf fun e=>hne (hR.hd.inj _ _ _ _ hj hb e)]
           exact hR.hd.here j T2 cs2 hj
       · obtain⟨A',hA'⟩:=hvis i A hi
         obtain⟨B',hB'⟩:=hvis j B hj;exact hR.hd.inj i j A' B' hA' hB' e
       · obtain⟨A',hA'⟩:=hvis j A hj
         exact hR.hd.lo j A' hA'
       · rw[List.length_set]
         rcases hset j _ hj with⟨rfl,e⟩|⟨hne,hj⟩
         · injection e with e1 e2
           subst e2;exact hrf y hy
         · exact hR.hd.bd j T2 cs2 hj y hy
       · obtain⟨A',hA'⟩:=hvis j A hj
         exact hR.own j A' hl hA'
     · cases h
   · cases h
 · cases h
theorem qKL (hq:∀k,(qv k).oneCell'=true) (hc:CallOK P w0 qv call) (ho:OrcOK P w0 qv orc):∀(l:List Oper) (σ:Sxs) (ad:Nat→Nat) (a:Go.Act) (w:World),exS P orc call lo l σ=some σ'→Rl w0 we qv ade lo ad σ a w→(∀ad' a' w',Rl w0 we qv ade lo ad' σ' a' w'→Q .normal a' w')→wpList P ops Q l a w
 |[],σ,ad,a,w,h,hR,hQ=>by
  simp[exS] at h;subst h;exact hQ _ _ _ hR
 |o::l,σ,ad,a,w,h,hR,hQ=>by
  unfold exS at h;split at h
  · cases h
  · rename_i hg
    refine wpList_plain (by simpa using hg) fun K hK=> ?_;split at h
    · rename_i T x v hop
      split at h
      · cases h
      · rename_i hdst
        simp only[Option.bind_eq_some_iff] at h;obtain⟨bl,hbl,h⟩:=h;exact qH5 hq hR hop (by simpa using hdst) hbl K fun w' hR'=>hK _ _ (qKL hq hc ho l _ ad a w' h hR' hQ)
    · split at h
      · rename_i r nw d he hdst
        split at h
        · rename_i hb
          obtain⟨hdl,hb⟩:=hb;simp only[List.all_eq_true,decide_eq_true_eq,List.mem_append] at hb;refine Oper.wp_mono (fun a' w' q=> ?_) (ex_ok hq hc ho hR.hd hR.old (qKc hR.tm o.op) he);obtain⟨ad',hp,rfl⟩:=q;refine hK _ _ (qKL hq hc ho l _ ad' _ w' h (qKq hR hp (fun x hx=>hb x (.inr hx)) ?_ ?_ fun v hv j hj=> ?_) hQ)
          · rw[hdst]
            exact qLY (by rw[hR.tm,qJm hp hR.sb])
          · rw[hdst];exact hR.df
          · rcases List.mem_or_eq_of_mem_set hv with hv|rfl
            · have:=hR.sb v hv j hj;omega
            · exact hb j (.inl hj)
        · cases h
      · cases h
end
def deps (o:Oper):List Nat:=(o.after.toList.filter fun e=>Region.binds .any e).map (·.on)
def opTm (op:Op):List Nat:=op.operands.toList.filterMap fun| .tmp t=>some t|_=>none
structure Rc where
 sl:List SV
 k:Nat
 r:SV
 nw:List Bk
 t:Option (Nat×List SL)
def Rc.rf (c:Rc):List Nat:=c.r.refs++refsB c.nw++(c.t.map fun x=>refsL x.2).getD []
def okB (all:List Oper) (n0 m:Nat) (pre:List Rc) (o:Oper) (c:Rc):Bool:=
 o.guard.isNone && (opTm o.op).all (fun t=>all.zipIdx.all fun x=>x.1.dst != some t || (deps o).contains x.2) && (deps o).all (fun k=>decide (k<pre.length)) &&
 c.rf.all fun j=>decide (j<n0) || (decide (n0+m≤j) && decide (j<n0+m+c.nw.length)) || (decide (j<n0+m) && (deps o).any fun k=>((pre[k]?).map fun c=>c.rf.contains j).getD false)
def dsB (all:List Oper) (n i d:Nat):Bool:=decide (d<n) && all.zipIdx.all fun x=>x.2==i || x.1.dst != some d
def stB (P:Program) (n0:Nat) (sl:List SV) (nws:List Bk) (pre:List Rc) (o:Oper) (T:Nat) (x v:Operand):Option (Nat×Nat×List SL):=match opv (slS sl) x,opv (slS sl) v with
 |some (.c (.p b 0)),some u=>match nws[b-n0]? with
  |some (some (T',cs))=>if n0≤b∧szT P T=some cs.length∧u.cells.length=cs.length∧(u.cells.all fun| .u=>false|_=>true)∧(pre.all fun c=>c.t.map (·.1) != some b)∧((deps o).any fun k=>((pre[k]?).map fun c=>decide (c.k≤b) && decide (b<c.k+c.nw.length)).getD false) then some (b,T',u.cells) else none
  |_=>none
 |_,_=>none
def exD (P:Program) (orc:Op→List SV→Option SV) (call:Cal) (all:List Oper) (bl0:List Bk):List Oper→List SV→List Bk→List Rc→Option (List SV×List Bk×List Rc)
 |[],sl,nws,pre=>some (sl,nws,pre)
 |o::l,sl,nws,pre=>match o.dst with
  |some d=>match ex P orc call (slS sl) (bl0++List.replicate nws.length none) o.op with
   |some (r,nw)=>if dsB all sl.length pre.length d && okB all bl0.length nws.length pre o ⟨sl,bl0.length+nws.length,r,nw,none⟩ then exD P orc call all bl0 l (sl.set d r) (nws++nw) (pre++[⟨sl,bl0.length+nws.length,r,nw,none⟩]) else none
   |none=>none
  |none=>match o.op with
   | .store T x v=>match stB P bl0.length sl nws pre o T x v with
     |some (b,T',cs)=>if okB all bl0.length nws.length pre o ⟨sl,bl0.length+nws.length,.c .u,[],some (b,cs)⟩ then exD P orc call all bl0 l sl (nws.set (b-bl0.length) (some (T',cs))) (pre++[⟨sl,bl0.length+nws.length,.c .u,[],some (b,cs)⟩]) else none
     |none=>none
   |_=>none
def Slt (all:List Oper) (pre:List Rc) (sl0:List SV) (n:Nat) (sl:List SV):Prop:=
 (∀t,(∀(k:Nat) q,k<n→all[k]? =some q→q.dst≠some t)→slS sl t=slS sl0 t)∧(∀(k:Nat) q c t,k<n→all[k]? =some q→q.dst=some t→pre[k]? =some c→slS sl t=c.r)
def Fill (pre:List Rc) (L:Nat→Prop) (j:Nat) (cs cs':List SL):Prop:=
 (∃(m:Nat) (c:Rc),L m∧pre[m]? =some c∧c.t=some (j,cs'))∨(cs'=cs∧∀(m:Nat) (c:Rc) x,L m→pre[m]? =some c→c.t≠some (j,x))
structure GdV (P:Program) (orc:Op→List SV→Option SV) (call:Cal) (all:List Oper) (bl0:List Bk) (sl0:List SV) (i:Nat) (c:Rc) (o:Oper) (d:Nat):Prop where
 hd:o.dst=some d
 dl:d<sl0.length
 ds:∀(k:Nat) q,all[k]? =some q→k≠i→q.dst≠some d
 ex:ex P orc call (slS c.sl) (bl0++List.replicate (c.k-bl0.length) none) o.op=some (c.r,c.nw)
 ht:c.t=none
structure GdS (P:Program) (n0:Nat) (pre:List Rc) (c:Rc) (o:Oper) (T:Nat) (x v:Operand) (b T':Nat) (cs:List SL) (u:SV):Prop where
 hd:o.dst=none
 op:o.op= .store T x v
 hx:opv (slS c.sl) x=some (.c (.p b 0))
 hv:opv (slS c.sl) v=some u
 sz:szT P T=some cs.length
 ln:u.cells.length=cs.length
 nu:(u.cells.all fun| .u=>false|_=>true)=true
 nw:c.nw=[]
 r:c.r= .c .u
 ht:c.t=some (b,u.cells)
 by_:∃m∈deps o,∃c',pre[m]? =some c'∧c'.k≤b∧c'.nw[b-c'.k]? =some (some (T',cs))
structure Gd1 (P:Program) (orc:Op→List SV→Option SV) (call:Cal) (all:List Oper) (bl0:List Bk) (sl0:List SV) (pre:List Rc) (i:Nat) (c:Rc) (o:Oper):Prop where
 ho:all[i]? =some o
 hg:o.guard=none
 dp:∀k∈deps o,k<i
 tm:∀t∈opTm o.op,∀(k:Nat) q,all[k]? =some q→q.dst=some t→k∈deps o
 rf:∀j∈c.rf,j<bl0.length∨(c.k≤j∧j<c.k+c.nw.length)∨(j<c.k∧∃m∈deps o,∃c',pre[m]? =some c'∧j∈c'.rf)
 st:Slt all pre sl0 i c.sl
 how:(∃d,GdV P orc call all bl0 sl0 i c o d)∨∃T x v b T' cs u,GdS P bl0.length pre c o T x v b T' cs u
structure Gd (P:Program) (orc:Op→List SV→Option SV) (call:Cal) (all:List Oper) (bl0:List Bk) (sl0 sl:List SV) (nws:List Bk) (pre:List Rc):Prop where
 ln:sl.length=sl0.length
 op:∀(i:Nat) c,pre[i]? =some c→∃o,Gd1 P orc call all bl0 sl0 pre i c o
 st:Slt all pre sl0 pre.length sl
 kk:∀(i:Nat) c,pre[i]? =some c→bl0.length≤c.k∧c.k+c.nw.length≤bl0.length+nws.length
 ord:∀(i m:Nat) c c',i<m→pre[i]? =some c→pre[m]? =some c'→c.k+c.nw.length≤c'.k
 un:∀(i m:Nat) c c' j x y,pre[i]? =some c→pre[m]? =some c'→c.t=some (j,x)→c'.t=some (j,y)→i=m
 tl:∀(i:Nat) c j x,pre[i]? =some c→c.t=some (j,x)→j<bl0.length+nws.length
 nw:∀j A,nws[j]? =some (some A)→∃(i:Nat) (c:Rc) (x:Nat) (cs:List SL),pre[i]? =some c∧c.nw[x]? =some (some (A.1,cs))∧c.k+x=bl0.length+j∧Fill pre (fun _=>True) (bl0.length+j) cs A.2
section
variable {P:Program} {orc:Op→List SV→Option SV} {call:Cal} {all:List Oper} {bl0:List Bk} {sl0:List SV}
theorem qH7 {pre:List Rc} {c:Rc} (hn:n≤pre.length) (h:Slt all pre sl0 n sl):Slt all (pre++[c]) sl0 n sl:=
 ⟨h.1,fun k q c' t hk ho hd hc=>h.2 k q c' t hk ho hd (by rwa [List.getElem?_append_left (by omega)] at hc)⟩
theorem qEO {pre:List Rc} {c:Rc} (h:pre[i]? =some c):i<pre.length:=(qBM.1 h).1
theorem qCW {pre:List Rc} {c c':Rc} (h:(pre++[c])[i]? =some c'):(pre[i]? =some c')∨(i=pre.length∧c'=c):=by
 rw[List.getElem?_append] at h;split at h
 · exact .inl h
 · obtain⟨h1,h2⟩:=qBM.1 h
   have:i-pre.length=0:=by simp at h1;omega
   simp[this] at h2;exact .inr ⟨by omega,h2.symm⟩
theorem qEN {pre:List Rc} {c c':Rc} (h:pre[i]? =some c'):(pre++[c])[i]? =some c':=by
 rw[List.getElem?_append_left (qEO h)];exact h
theorem qK5 {sl':List SV} {nws':List Bk} {pre:List Rc} {c:Rc} (hG:Gd P orc call all bl0 sl0 sl nws pre) (ho:all[pre.length]? =some o) (hk:c.k=bl0.length+nws.length) (hsl:c.sl=sl)
 (hok:okB all bl0.length nws.length pre o c=true) (hl':sl'.length=sl.length) (hn':nws'.length=nws.length+c.nw.length)
 (hs1:∀t,o.dst≠some t→slS sl' t=slS sl t) (hs2:∀t,o.dst=some t→slS sl' t=c.r) (how:(∃d,GdV P orc call all bl0 sl0 pre.length c o d)∨∃T x v b T' cs u,GdS P bl0.length pre c o T x v b T' cs u)
 (hun:∀(m:Nat) c' j x y,pre[m]? =some c'→c'.t=some (j,x)→c.t≠some (j,y)) (htl:∀j x,c.t=some (j,x)→j<bl0.length+nws.length)
 (hnw:∀j A,nws'[j]? =some (some A)→∃(i:Nat) (c1:Rc) (x:Nat) (cs:List SL),(pre++[c])[i]? =some c1∧c1.nw[x]? =some (some (A.1,cs))∧c1.k+x=bl0.length+j∧Fill (pre++[c]) (fun _=>True) (bl0.length+j) cs A.2):
 Gd P orc call all bl0 sl0 sl' nws' (pre++[c]):=by
 unfold okB at hok;simp only[Bool.and_eq_true,List.all_eq_true,Bool.or_eq_true,decide_eq_true_eq,bne_iff_ne,ne_eq,Option.isNone_iff_eq_none,List.contains_iff_mem,beq_iff_eq,List.any_eq_true,List.mem_zipIdx_iff_getElem?,Prod.forall] at hok;obtain⟨⟨⟨h1,h3⟩,h5⟩,h6⟩:=hok;have hds:∀(k:Nat) q d,o.dst=some d→all[k]? =some q→k≠pre.length→q.dst≠some d:=fun k q d hd hq hne=>by
  rcases how with⟨d',g⟩|⟨_,_,_,_,_,_,_,g⟩
  · have:d'=d:=by have:=g.hd;rw[hd] at this;injection this with this;exact this.symm
    exact this▸g.ds k q hq hne
  · rw[g.hd] at hd;cases hd
 have upS:∀{c' o' T x v b T' cs u},GdS P bl0.length pre c' o' T x v b T' cs u→GdS P bl0.length (pre++[c]) c' o' T x v b T' cs u:=fun g=>⟨g.hd,g.op,g.hx,g.hv,g.sz,g.ln,g.nu,g.nw,g.r,g.ht,let ⟨m,hm,c',h1,h2⟩:=g.by_;⟨m,hm,c',qEN h1,h2⟩⟩;refine⟨hl'.trans hG.ln,fun i c' hc=> ?_,⟨fun t ht=> ?_,fun k q c' t hk' hq hqd hc=> ?_⟩,fun i c' hc=> ?_,fun i m c1 c2 him hc hc'=> ?_,fun i m c1 c2 j x y hc hc' h h'=> ?_,fun i c' j x hc h=> ?_,hnw⟩
 · rcases qCW hc with hc|⟨rfl,rfl⟩
   · obtain⟨o',g⟩:=hG.op i c' hc
     refine⟨o',g.ho,g.hg,g.dp,g.tm,fun j hj=>(g.rf j hj).imp id (.imp id fun⟨h,m,hm,c2,hc2,h'⟩=>⟨h,m,hm,c2,qEN hc2,h'⟩),qH7 (Nat.le_of_lt (qEO hc)) g.st,g.how.imp id fun⟨T,x,v,b,T',cs,u,gs⟩=>⟨T,x,v,b,T',cs,u,upS gs⟩⟩
   · refine⟨o,ho,h1,h5,fun t ht k q hq hqd=>(h3 t ht q k hq).resolve_left fun h=>h hqd,fun j hj=> ?_,hsl▸qH7 (qBL _) hG.st,how.imp id fun⟨T,x,v,b,T',cs,u,gs⟩=>⟨T,x,v,b,T',cs,u,upS gs⟩⟩
     rw[hk];rcases h6 j hj with(h|h)|⟨h,m,hm,h'⟩
     · exact .inl h
     · exact .inr (.inl h)
     · cases hc2:pre[m]? with
       |none=>simp[hc2] at h'
       |some c2=>exact .inr (.inr ⟨h,m,hm,c2,qEN hc2,by simpa[hc2] using h'⟩)
 · rw[hs1 t fun e=>ht pre.length o (by simp) ho e]
   exact hG.st.1 t fun k q hk=>ht k q qK
 · rcases qCW hc with hc|⟨rfl,rfl⟩
   · rw[hs1 t fun e=>hds k q t e hq (by have:=qEO hc;omega) hqd]
     exact hG.st.2 k q c' t (qEO hc) hq hqd hc
   · rw[ho] at hq
     injection hq with hq;subst hq;exact hs2 t hqd
 · rcases qCW hc with hc|⟨rfl,rfl⟩
   · have:=hG.kk i c' hc;omega
   · omega
 · rcases qCW hc with k1|⟨e1,e2⟩
   · rcases qCW hc' with k2|⟨e1,e2⟩
     · exact hG.ord i m c1 c2 him k1 k2
     · rw[e2,hk];exact(hG.kk i c1 k1).2
   · have:=qEO hc';simp at this;omega
 · rcases qCW hc with k1|⟨e1,e2⟩<;>rcases qCW hc' with k2|⟨e3,e4⟩
   · exact hG.un i m c1 c2 j x y k1 k2 h h'
   · exact absurd (e4▸h') (hun i c1 j x y k1 h)
   · exact absurd (e2▸h) (hun m c2 j y x k2 h')
   · rw[e1,e3]
 · rcases qCW hc with hc|⟨rfl,rfl⟩
   · have:=hG.tl i c' j x hc h;omega
   · have:=htl j x h;omega
theorem qK7 {pre:List Rc} {c:Rc} {cs':List SL} (h:Fill pre (fun _=>True) j cs cs') (hc:∀x,c.t≠some (j,x)):Fill (pre++[c]) (fun _=>True) j cs cs':=by
 rcases h with⟨m,c',-,h1,h2⟩|⟨h1,h2⟩
 · exact .inl ⟨m,c',trivial,qEN h1,h2⟩
 · refine .inr ⟨h1,fun m c' x _ hm=> ?_⟩
   rcases qCW hm with hm|⟨-,rfl⟩
   · exact h2 m c' x trivial hm
   · exact hc x
theorem gd_snoc {nw:List Bk} {pre:List Rc} {d:Nat} {r:SV} (hG:Gd P orc call all bl0 sl0 sl nws pre) (ho:all[pre.length]? =some o) (hd:o.dst=some d)
 (he:ex P orc call (slS sl) (bl0++List.replicate nws.length none) o.op=some (r,nw)) (hds:dsB all sl.length pre.length d=true) (hok:okB all bl0.length nws.length pre o ⟨sl,bl0.length+nws.length,r,nw,none⟩=true):
 Gd P orc call all bl0 sl0 (sl.set d r) (nws++nw) (pre++[⟨sl,bl0.length+nws.length,r,nw,none⟩]):=by
 unfold dsB at hds;simp only[Bool.and_eq_true,List.all_eq_true,Bool.or_eq_true,decide_eq_true_eq,bne_iff_ne,ne_eq,beq_iff_eq,List.mem_zipIdx_iff_getElem?,Prod.forall] at hds;obtain⟨h2,h4⟩:=hds;refine qK5 hG ho rfl rfl hok (by simp) (by simp) (fun t ht=> ?_) (fun t ht=> ?_) (.inl ⟨d,hd,by have:=hG.ln;omega,fun k q hq hne=>(h4 q k hq).resolve_left hne,by simpa using he,rfl⟩) (fun m c' j x y _ _ h=>by cases h) (fun j x h=>by cases h) fun j A hj=> ?_
 · have hne:d≠t:=fun e=>ht (by rw[hd,e])
   simp only[slS,List.getD_eq_getElem?_getD,List.getElem?_set_ne hne]
 · rw[hd] at ht;injection ht with ht;subst ht
   simp[slS,h2]
 · rw[List.getElem?_append] at hj
   split at hj
   · obtain⟨i,c,x,cs,k1,k2,k3,k4⟩:=hG.nw j A hj
     exact⟨i,c,x,cs,qEN k1,k2,k3,qK7 k4 fun x h=>by cases h⟩
   · refine⟨pre.length,_,j-nws.length,A.2,List.getElem?_concat_length,hj,by simp only;omega,.inr ⟨rfl,fun m c' x _ hm h=> ?_⟩⟩
     rcases qCW hm with hm|⟨-,rfl⟩
     · have:=hG.tl m c' _ x hm h;omega
     · cases h
theorem qOK {pre:List Rc} {b T':Nat} {x v:Operand} {us:List SL} (hG:Gd P orc call all bl0 sl0 sl nws pre) (ho:all[pre.length]? =some o) (hd:o.dst=none) (hop:o.op= .store T x v)
 (hst:stB P bl0.length sl nws pre o T x v=some (b,T',us)) (hok:okB all bl0.length nws.length pre o ⟨sl,bl0.length+nws.length,.c .u,[],some (b,us)⟩=true):
 Gd P orc call all bl0 sl0 sl (nws.set (b-bl0.length) (some (T',us))) (pre++[⟨sl,bl0.length+nws.length,.c .u,[],some (b,us)⟩]):=by
 unfold stB at hst;split at hst
 · rename_i b' u hx hv
   split at hst
   · rename_i T2 cs hb
     split at hst
     · rename_i hc
       simp only[Option.some.injEq,Prod.mk.injEq] at hst;obtain⟨rfl,rfl,rfl⟩:=hst;obtain⟨h1,h2,h3,h4,h5,h6⟩:=hc;simp only[List.all_eq_true,bne_iff_ne,ne_eq] at h5;simp only[List.any_eq_true] at h6;have hbl:b'-bl0.length<nws.length:=(qBM.1 hb).1;have hno:∀(m:Nat) c' x,pre[m]? =some c'→c'.t≠some (b',x):=fun m c' x hm h=>h5 c' (qBQ hm) (by rw[h];rfl);obtain⟨i,c,y,cs2,k1,k2,k3,k4⟩:=hG.nw _ _ hb;have e1:bl0.length+(b'-bl0.length)=b':=by omega
       rw[e1] at k3 k4;have ecs:cs=cs2:=by
        rcases k4 with⟨m,c',-,hm,h⟩|⟨h,-⟩
        · exact absurd h (hno m c' _ hm)
        · exact h
       subst ecs;have hyl:y<c.nw.length:=(qBM.1 k2).1;refine qK5 hG ho rfl rfl hok rfl (by simp) (fun t _=>rfl) (fun t ht=>by rw[hd] at ht;cases ht) (.inr ⟨T,x,v,b',T2,cs,u,hd,hop,hx,hv,h2,h3,h4,rfl,rfl,rfl,?_⟩) (fun m c' j z z' hm h h'=> ?_) (fun j z h=> ?_) fun j A hj=> ?_
       · obtain⟨k,hk,h⟩:=h6
         cases hc':pre[k]? with
         |none=>simp[hc'] at h
         |some c'=>
          simp only[hc',Option.map_some,Option.getD_some,Bool.and_eq_true,decide_eq_true_eq] at h;have e:k=i:=by
           rcases Nat.lt_trichotomy k i with q|q|q
           · have:=hG.ord k i c' c q hc' k1;omega
           · exact q
           · have:=hG.ord i k c c' q k1 hc';omega
          subst e;rw[k1] at hc';injection hc' with hc';subst hc'
          exact⟨k,hk,c,k1,h.1,by rw[show b'-c.k=y by omega];exact k2⟩
       · injection h' with h';injection h' with e2 _
         exact hno m c' z hm (e2▸h)
       · injection h with h;injection h with h _;omega
       · by_cases e:b'-bl0.length=j
         · subst e
           rw[List.getElem?_set_self hbl] at hj;injection hj with hj;injection hj with hj;subst hj;rw[e1];exact⟨i,c,y,cs,qEN k1,k2,k3,.inl ⟨pre.length,_,trivial,List.getElem?_concat_length,rfl⟩⟩
         · rw[List.getElem?_set_ne e] at hj
           obtain⟨i2,c2,x2,cs3,l1,l2,l3,l4⟩:=hG.nw j A hj;exact⟨i2,c2,x2,cs3,qEN l1,l2,l3,qK7 l4 fun z h=>by injection h with h;injection h with h _;omega⟩
     · cases hst
   · cases hst
 · cases hst
theorem qOT:∀(l:List Oper) (sl:List SV) (nws:List Bk) (pre:List Rc) {F:List SV×List Bk×List Rc},exD P orc call all bl0 l sl nws pre=some F→(∀j,all[pre.length+j]? =l[j]?)→Gd P orc call all bl0 sl0 sl nws pre→Gd P orc call all bl0 sl0 F.1 F.2.1 F.2.2∧F.2.2.length=pre.length+l.length
 |[],sl,nws,pre,F,h,_,hG=>by
  simp[exD] at h;subst h;exact⟨hG,by simp⟩
 |o::l,sl,nws,pre,F,h,hl,hG=>by
  have ho:all[pre.length]? =some o:=by simpa using hl 0
  have next:∀{sl' nws' c},exD P orc call all bl0 l sl' nws' (pre++[c])=some F→Gd P orc call all bl0 sl0 sl' nws' (pre++[c])→Gd P orc call all bl0 sl0 F.1 F.2.1 F.2.2∧F.2.2.length=pre.length+(o::l).length:=fun {sl' nws' c} h g=>by
   have:=qOT l _ _ _ h (fun j=>by have:=hl (j+1);simp only[List.length_append,List.length_cons,List.length_nil];rw[show pre.length+(0+1)+j=pre.length+(j+1) by omega];simpa using this) g;exact⟨this.1,by rw[this.2];simp;omega⟩
  unfold exD at h;split at h
  · rename_i d hd
    split at h
    · rename_i r nw he
      split at h
      · rename_i hok
        rw[Bool.and_eq_true] at hok;exact next h (gd_snoc hG ho hd he hok.1 hok.2)
      · cases h
    · cases h
  · rename_i hd
    split at h
    · rename_i T x v hop
      split at h
      · rename_i b T' cs hst
        split at h
        · rename_i hok
          exact next h (qOK hG ho hd hop hst hok)
        · cases h
      · cases h
    · cases h
theorem gd_nil:Gd P orc call all bl0 sl0 sl0 [] []:=
 ⟨rfl,fun i c h=>by simp at h,⟨fun t _=>rfl,fun k q c t h=>by simp at h⟩,fun i c h=>by simp at h,fun i m c c' _ h=>by simp at h,fun i m c c' j x y h=>by simp at h,fun i c j x h=>by simp at h,fun j A h=>by simp at h⟩
end
end Go.Proofs.YtgdbhanhmenmfaaGreat
