/-
Sxg Fcw Sxh Flc Fcx Fcz Fcy Fch
-/
import Derived.Test.YtelceoecekfamaaGreatQ11
import Derived.Test.YtelceoecekfamaaGreatQ12
import Derived.Test.YtelceoecekfamaaGreatQ14
import Derived.Deep.RegionHeld3
import Derived.Deep.RegionWith
import Derived.Deep.DeepCutAuto
set_option linter.unusedSimpArgs false
set_option linter.unusedVariables false
set_option maxRecDepth 100000
set_option maxHeartbeats 1000000
namespace Go.Proofs.YtelceoecekfamaaGreat
open Go.RowKit
variable {E L:List Value}{N T:Nat}{f:Fn}{j n:Nat}{p:Addr}{sz:Nat}{t:Typ}{ts:List Typ}{w:World}
theorem zK {P:Prop} (h:P:=by exact bodyPost_ret (v:= .agg #[.int .i64 t.1,.int .i64 t.2]) (by simp[results,Tryz.results99,go_sem]) rfl ⟨by rw[HT.out],(qAo _ _).alloc (by simp) _⟩):P:=h
theorem zP {P:Prop} (h:P:=by exact bodyPost_ret (v:= .agg #[.int .i64 8,.int .i64 0]) (by simp[results,Tryz.results99,go_sem]) rfl ⟨by rw[HT.out],(qAo _ _).alloc (by simp) _⟩):P:=h
def fullB (σ:Sxs) (sl:List SV) (nws:List Bk):Option Sxs:=if (sl.all fun v=>v.refs.all (·<σ.bl.length+nws.length))∧(refsB nws).all (·<σ.bl.length+nws.length) then some ⟨sl,σ.bl++nws⟩ else none
def exR (P:Program) (orc:Op→List SV→Option SV) (call:Cal) (lo:Nat) (draw:Bool) (ops:Array Oper) (σ:Sxs):Option Sxs:=
 if draw=false then exS P orc call lo ops.toList ops.toList σ else match ops.back? with
  |none=>none
  |some L=>match L.op with
   | .store T x v=>if L.dst.isNone∧lastB ops.pop L=true then (exD P orc call ops.pop.toList σ.bl ops.pop.toList σ.sl [] []).bind fun F=>(fullB σ F.1 F.2.1).bind fun τ=>(exSt P lo (slS τ.sl) τ.bl T x v).map fun bl=>⟨τ.sl,bl⟩ else (exD P orc call ops.toList σ.bl ops.toList σ.sl [] []).bind fun F=>fullB σ F.1 F.2.1
   |_=>(exD P orc call ops.toList σ.bl ops.toList σ.sl [] []).bind fun F=>fullB σ F.1 F.2.1
inductive Ev where
 |n|r|x (id:Nat)
def Ev.exit:Ev→Exit
 | .n=> .normal| .r=> .ret| .x id=> .exit id
def evC (P:Program) (orc:Op→List SV→Option SV) (call:Cal) (lo:Nat):Code→Sxs→Option (Ev×Sxs)
 | .skip,σ| .label _,σ=>some (.n,σ)
 | .ret,σ=>some (.r,σ)
 | .exit id,σ=>some (.x id,σ)
 | .region _ ops draw,σ=>(exR P orc call lo draw ops σ).map fun τ=>(.n,τ)
 | .seq c d,σ=>match evC P orc call lo c σ with
   |some (.n,τ)=>evC P orc call lo d τ
   |R=>R
 | .cond c t e,σ=>match opv (slS σ.sl) c with
   |some (.c (.y b))=>if b then evC P orc call lo t σ else evC P orc call lo e σ
   |_=>none
 | .block id c,σ=>match evC P orc call lo c σ with
   |some (.x j,τ)=>some (if j=id then .n else .x j,τ)
   |R=>R
 |_,_=>none
def resS (P:Program) (σ:Sxs):List ResultVar→Option SV
 |[.tmp t]=>some (slS σ.sl t)
 |[.cell t T]=>match ex0 P (slS σ.sl) σ.bl (.load T (.tmp t)) with
  |some (.val r)=>some r
  |_=>none
 |_=>none
def evB (P:Program) (fnT:Nat→Option Func) (orc:Op→List SV→Option SV) (call:Cal):Cal:=fun f l bl=>(fnT f).bind fun fn=>fn.body.bind fun c=>match evC P orc call bl.length c ⟨l++List.replicate (fn.ntmps-l.length) (.c .u),bl⟩ with
 |some (.x _,_)|none=>none
 |some (_,σ)=>(resS P σ fn.results.toList).map fun r=>(r,σ.bl.drop bl.length)
def evF (P:Program) (fnT:Nat→Option Func) (orc:Op→List SV→Option SV) (spec:Nat→List SV→Option SV):Nat→Cal
 |0=>fun f l _=>(spec f l).map fun r=>(r,[])
 |n+1=>fun f l bl=>match spec f l with
  |some r=>some (r,[])
  |none=>evB P fnT orc (evF P fnT orc spec n) f l bl
def FnOK (P:Program) (fnT:Nat→Option Func):Prop:=∀f fn,fnT f=some fn→P.funcs[f]? =some fn∧(fn.name=="runtime.NumGoroutine")=false
def SpOK (P:Program) (w0:World) (qv:Nat→Value) (spec:Nat→List SV→Option SV):Prop:=∀f l r,spec f l=some r→Callee P f∧∀ad w,Below w0.heap.size w0 w→Calls P f (l.map (vs qv ad)).toArray w fun e w'=>e= .returned (vs qv ad r)∧Below w.heap.size w w'
section
variable {P:Program} {qv:Nat→Value} {ad ade:Nat→Nat} {lo:Nat} {w we w0:World} {a:Go.Act} {orc:Op→List SV→Option SV} {call:Cal} {σ σ':Sxs} {fnT:Nat→Option Func} {spec:Nat→List SV→Option SV}
theorem rl_drew (h:Rl w0 we qv ade lo ad σ a w):Rl w0 we qv ade lo ad σ a {w with drawn:=w.drawn+1}:=
 ⟨h.tm,h.df,⟨h.hd.here,h.hd.inj,h.hd.lo,h.hd.bd⟩,h.old.drew,h.bw.drew,h.own,h.ag,h.le,h.sb⟩
theorem exR_ok {id:Nat} {draw:Bool} {ops:Array Oper} {Q:Exit→Go.Act→World→Prop} (hm:P.follows .mixedOrders=true) (hq:∀k,(qv k).oneCell'=true) (hc:CallOK P w0 qv call) (ho:OrcOK P w0 qv orc) (h:exR P orc call lo draw ops σ=some σ') (hR:Rl w0 we qv ade lo ad σ a w) (hQ:∀ad' a' w',Rl w0 we qv ade lo ad' σ' a' w'→Q .normal a' w'):(Code.region id ops draw).wp P Q a w:=by
 have front:∀{os:Array Oper} {F τ Q'},exD P orc call os.toList σ.bl os.toList σ.sl [] []=some F→fullB σ F.1 F.2.1=some τ→(∀ad' a' w',Rl w0 we qv ade lo ad' τ a' w'→Q' .normal a' w')→wpAny P .any os Q' os.size (Array.replicate os.size false) a {w with drawn:=w.drawn+1}:=fun {os F τ Q'} hF hf hQ'=>by
  obtain⟨hG,hl⟩:=qJe (sl0:=σ.sl) os.toList σ.sl [] [] hF (fun j=>by simp) gd_nil;have hR':=rl_drew hR;unfold fullB at hf;split at hf
  · rename_i hb
    injection hf with hf;subst hf;simp only[List.all_eq_true,decide_eq_true_eq] at hb;exact exD_ok hq hc ho hG (by rw[hl];simp) hR'.hd hR'.old hR'.tm hR'.sb fun ad' a' w' hp h1 h2=>hQ' ad' a' w' (qEz hR' hp hb.2 h1 (h2.trans hR'.df) hb.1)
  · cases hf
 unfold exR at h;split at h
 · rename_i hd
   subst hd;exact wp_region_list (qEH hq hc ho _ σ ad a w h hR hQ)
 · rename_i hd
   have hd':draw=true:=by simpa using hd
   subst hd';refine wp_region_any hm ?_;split at h
   · cases h
   · rename_i L hL
     have hops:ops=ops.pop.push L:=by
      have hne:ops.size≠0:=fun h0=>by simp[Array.back?,h0] at hL
      apply Array.ext_getElem?
      intro i;rw[Array.getElem?_push];simp only[Array.size_pop,Array.getElem?_pop];rw[Array.back?] at hL;split
      · rename_i e;rw[e];exact hL
      · split
        · rfl
        · exact Array.getElem?_eq_none (by omega)
     split at h
     · rename_i T x v hop
       split at h
       · rename_i hl
         simp only[Option.bind_eq_some_iff,Option.map_eq_some_iff] at h;obtain⟨F,hF,τ,hτ,bl,hbl,rfl⟩:=h;have:=qGD (Q:=Q) (P:=P) hl.2 _ (Array.replicate ops.pop.size false) _ _ (by simp) (front hF hτ fun ad' a' w' hr=>qFS (Q:=Q) hq hr hop (by simpa using hl.1) hbl (fun a'' w''=>Q .normal a'' w'') fun w'' hr'=>hQ _ _ _ hr');have e:(Array.replicate ops.pop.size false).push false=Array.replicate ops.size false:=by
          have h1:ops.size=ops.pop.size+1:=by conv=>lhs;rw[hops]
                                              simp
          rw[h1,Array.replicate_succ]
         have h1:ops.size=ops.pop.size+1:=by conv=>lhs;rw[hops]
                                             simp
         rw[e,←hops,←h1] at this;exact this
       · simp only[Option.bind_eq_some_iff] at h
         obtain⟨F,hF,hτ⟩:=h;exact front hF hτ hQ
     · simp only[Option.bind_eq_some_iff] at h
       obtain⟨F,hF,hτ⟩:=h;exact front hF hτ hQ
theorem qJh (hm:P.follows .mixedOrders=true) (hq:∀k,(qv k).oneCell'=true) (hc:CallOK P w0 qv call) (ho:OrcOK P w0 qv orc):∀(c:Code) (σ:Sxs) (e:Ev) (σ':Sxs) (ad:Nat→Nat) (a:Go.Act) (w:World) (Q:Exit→Go.Act→World→Prop),evC P orc call lo c σ=some (e,σ')→Rl w0 we qv ade lo ad σ a w→(∀ad' a' w',Rl w0 we qv ade lo ad' σ' a' w'→Q e.exit a' w')→c.wp P Q a w:=by
 intro c
 induction c with
 |skip=>intro σ e σ' ad a w Q h hR hQ;simp[evC] at h;obtain⟨rfl,rfl⟩:=h;exact wp_skip (hQ _ _ _ hR)
 |label l=>intro σ e σ' ad a w Q h hR hQ;simp[evC] at h;obtain⟨rfl,rfl⟩:=h;exact wp_label (hQ _ _ _ hR)
 |ret=>intro σ e σ' ad a w Q h hR hQ;simp[evC] at h;obtain⟨rfl,rfl⟩:=h;exact wp_ret (hQ _ _ _ hR)
 |exit id=>intro σ e σ' ad a w Q h hR hQ;simp[evC] at h;obtain⟨rfl,rfl⟩:=h;exact wp_exit (hQ _ _ _ hR)
 |region id ops draw=>
  intro σ e σ' ad a w Q h hR hQ;simp only[evC,Option.map_eq_some_iff,Prod.mk.injEq] at h;obtain⟨τ,hτ,rfl,rfl⟩:=h;exact exR_ok hm hq hc ho hτ hR hQ
 |seq c d ihc ihd=>
  intro σ e σ' ad a w Q h hR hQ;simp only[evC] at h;refine wp_seq ?_;split at h
  · rename_i τ hτ
    exact ihc σ .n τ ad a w _ hτ hR fun ad' a' w' hR'=>ihd τ e σ' ad' a' w' Q h hR' hQ
  · rename_i R hne
    refine ihc σ e σ' ad a w _ h hR fun ad' a' w' hR'=> ?_;have:=hQ ad' a' w' hR'
    cases e with
    |n=>exact absurd h (hne σ')
    |r=>exact this
    |x id=>exact this
 |cond c t e iht ihe=>
  intro σ ev σ' ad a w Q h hR hQ;simp only[evC] at h;split at h
  · rename_i b hb
    have hv:a.eval c= .bool b:=qD0 (ρ:=slS σ.sl) (qv:=qv) (ad:=ad) (fun t _=>qDq hR.tm t) hb;refine wp_cond hv ?_
    cases b with
    |true=>exact iht σ ev σ' ad a w Q h hR hQ
    |false=>exact ihe σ ev σ' ad a w Q h hR hQ
  · cases h
 |block id c ih=>
  intro σ e σ' ad a w Q h hR hQ;simp only[evC] at h;refine wp_block ?_;split at h
  · rename_i j τ hτ
    simp only[Option.some.injEq,Prod.mk.injEq] at h;obtain⟨rfl,rfl⟩:=h;refine ih σ (.x j) τ ad a w _ hτ hR fun ad' a' w' hR'=> ?_;have:=hQ ad' a' w' hR'
    show(if j=id then Q .normal a' w' else Q (.exit j) a' w')
    split
    · rename_i hj;rw[if_pos hj] at this;exact this
    · rename_i hj;rw[if_neg hj] at this;exact this
  · rename_i R hne
    refine ih σ e σ' ad a w _ h hR fun ad' a' w' hR'=> ?_;have:=hQ ad' a' w' hR'
    cases e with
    |n=>exact this
    |r=>exact this
    |x j=>exact absurd h (hne j σ')
 |_=>intro σ e σ' ad a w Q h hR hQ;simp[evC] at h
theorem res_run {fn:Func} {r:SV} (hR:Rl w0 we qv ade lo ad σ a w) (hq:∀k,(qv k).oneCell'=true) (h:resS P σ fn.results.toList=some r):(results fn a.tmps).run P w= .ok (vs qv ad r) w:=by
 have key:∀l,fn.results=l.toArray→resS P σ l=some r→(results fn a.tmps).run P w= .ok (vs qv ad r) w:=fun l hl h=>by
  unfold resS at h;split at h
  · rename_i t
    injection h with h;subst h;have:=qDq hR.tm t;simp[results,hl,←this]
  · rename_i t T
    split at h
    · rename_i r' hr
      injection h with h;subst h;rcases qFB (o:=⟨none,.load T (.tmp t),T,"",#[],none⟩) hq hR.hd (qHA hR.tm (.load T (.tmp t))) hr with⟨r2,e,h2⟩|⟨_,_,_,e,_⟩
      · injection e with e;subst e
        obtain⟨b,o,hb⟩:∃b o,slS σ.sl t= .c (.p b o):=by
         unfold ex0 at hr;simp only[opv] at hr;split at hr
         · rename_i b o hx
           injection hx with hx;exact⟨b,o,hx⟩
         · cases hr
        have hs:a.tmps.getD t undef= .pointer (some ⟨ad b,o,none⟩):=by rw[qDq hR.tm t,hb];rfl
        have h3:(loadVar T ⟨ad b,o,none⟩).run P w= .ok (vs qv ad r') w:=by
         simp only[execOp,Act.eval,hs,Instr.loadAt,Instr.sureAddr,Sem.run_bind,Sem.run_pure,Result.andThen_ok] at h2
         cases hx:(loadVar T ⟨ad b,o,none⟩).run P w with
         |ok v w2=>rw[hx] at h2;simp at h2;obtain⟨rfl,rfl⟩:=h2;rfl
         |halt x w2=>rw[hx] at h2;simp[Result.andThen] at h2
        have hs':a.tmps[t]?.getD undef= .pointer (some ⟨ad b,o,none⟩):=by rw[←hs];simp
        simp[results,hl,hs',asAddr,h3]
      · cases e
    · cases h
  · cases h
 exact key fn.results.toList (by simp) h
theorem qJi (hm:P.follows .mixedOrders=true) (hq:∀k,(qv k).oneCell'=true) (hf:FnOK P fnT) (hc:CallOK P w0 qv call) (ho:OrcOK P w0 qv orc):CallOK P w0 qv (evB P fnT orc call):=by
 intro f l bl r nw h;unfold evB at h;simp only[Option.bind_eq_some_iff] at h;obtain⟨fn,hfn,c,hbody,h⟩:=h;obtain⟨h1,h2⟩:=hf f fn hfn;refine⟨⟨fn,h1,h2,by rw[hbody];rfl⟩,fun ad w hH hO hl=>calls_of_wp h1 hbody ?_⟩;have h0:Rl w0 w qv ad bl.length ad ⟨l++List.replicate (fn.ntmps-l.length) (.c .u),bl⟩ {tmps:=(l.map (vs qv ad)).toArray++Array.replicate (fn.ntmps-(l.map (vs qv ad)).toArray.size) undef,defers:=[]} w:=by
  refine⟨?_,rfl,hH,hO,qAk _ _,fun j A hj h=> ?_,fun _ _=>rfl,qAi _,fun v hv j hj=> ?_⟩
  · apply Array.ext'
    simp[vs,lv]
  · have:j<bl.length:=(qAj.1 h).1;omega
  · rcases List.mem_append.1 hv with hv|hv
    · exact hl v hv j hj
    · rw[(List.mem_replicate.1 hv).2] at hj;simp[SV.refs,SL.refs] at hj
 have fin:∀{e σ},evC P orc call bl.length c ⟨l++List.replicate (fn.ntmps-l.length) (.c .u),bl⟩=some (e,σ)→(e= .n∨e= .r)→(resS P σ fn.results.toList).map (fun r=>(r,σ.bl.drop bl.length))=some (r,nw)→c.wp P (bodyPost P fn fun e w'=>∃ad',Post qv ad bl nw w w' ad'∧e= .returned (vs qv ad' r)) {tmps:=(l.map (vs qv ad)).toArray++Array.replicate (fn.ntmps-(l.map (vs qv ad)).toArray.size) undef,defers:=[]} w:=fun {e σ} he hor hr=>by
  simp only[Option.map_eq_some_iff,Prod.mk.injEq] at hr;obtain⟨r',hr',rfl,rfl⟩:=hr;refine qJh hm hq hc ho c _ e σ ad _ w _ he h0 fun ad' a' w' hR=> ?_;have hres:=res_run hR hq hr';have:a'.defers=[]∧∃v,(results fn a'.tmps).run P w'= .ok v w'∧∃ad',Post qv ad bl (σ.bl.drop bl.length) w w' ad'∧Ending.returned v= .returned (vs qv ad' r'):=by
   refine⟨hR.df,_,hres,ad',⟨hR.ag,hR.bw,fun j T cs hj=> ?_,fun i j A B hi hj e=> ?_⟩,rfl⟩
   · rw[List.getElem?_drop] at hj
     exact⟨hR.own _ _ (Nat.le_add_right _ _) hj,hR.hd.here _ T cs hj⟩
   · rw[List.getElem?_drop] at hi hj
     have:=hR.hd.inj _ _ A B hi hj e
     omega
  rcases hor with rfl|rfl<;>exact this
 split at h
 · cases h
 · cases h
 · rename_i e σ hne he
   refine fin he ?_ h
   cases e with
   |n=>exact .inl rfl
   |r=>exact .inr rfl
   |x id=>exact absurd rfl (hne id)
theorem qJg (hm:P.follows .mixedOrders=true) (hq:∀k,(qv k).oneCell'=true) (hf:FnOK P fnT) (ho:OrcOK P w0 qv orc) (hs:SpOK P w0 qv spec):∀n,CallOK P w0 qv (evF P fnT orc spec n):=by
 have sp:∀{f l bl r r' nw},spec f l=some r'→(r',[])=(r,nw)→Callee P f∧∀ad w,Held w0.heap.size qv ad bl w→Below w0.heap.size w0 w→(∀v∈l,∀j∈v.refs,j<bl.length)→
  Calls P f (l.map (vs qv ad)).toArray w fun e w'=>∃ad',Post qv ad bl nw w w' ad'∧e= .returned (vs qv ad' r):=fun {f l bl r r' nw} h he=>by
  injection he with h1 h2;subst h1;subst h2;obtain⟨hc,hC⟩:=hs f l _ h;exact⟨hc,fun ad w _ hO _=>(hC ad w hO).mono fun e w' ⟨h1,h2⟩=>⟨ad,⟨fun _ _=>rfl,h2,fun j T cs h=>by simp at h,fun i j A B h=>by simp at h⟩,h1⟩⟩
 intro n
 induction n with
 |zero=>
  intro f l bl r nw h;simp only[evF,Option.map_eq_some_iff] at h;obtain⟨r',hr,he⟩:=h;exact sp hr he
 |succ n ih=>
  intro f l bl r nw h;simp only[evF] at h;split at h
  · rename_i r' hr
    injection h with he;exact sp hr he
  · exact qJi hm hq hf ih ho f l bl r nw h
end
def Chgs (K:Nat) (ins outs:List Typ) (w:World) (e:Ending) (w':World):Prop:=
 Below w.heap.size w w'∧∃A n c B m d,e= .returned (.agg #[.slice A n c,.slice B m d])∧tysL.R (fun b=>b<K∨w.heap.size≤b∧b<w'.heap.size) w' [.slice A n c] ins∧tysL.R (fun b=>b<K∨w.heap.size≤b∧b<w'.heap.size) w' [.slice B m d] outs
theorem qCy {b t:Nat} {c:Array Value} (h:Blk w b t c):Blk w.drew b t c:=h
theorem lit_sl {S:Nat→Prop} {g:Nat} {cs:Array Value} (h:Blk w g 41 cs) (hg:S g) (hc:cs.toList=T2 ts) (ha:A64 ts) (hn:ts.length=n) (hm:n≤1000):tysL.R S w [.slice (some ⟨g,0,none⟩) n n] ts:=by
 subst hn;refine qAX ?_;intro e;have hcell:∀i u,(T2 ts)[i]? =some u→w.cell? ⟨g,i,none⟩=some u:=fun i u hu=>by
  rw[h.cell i,←hu,←hc];simp
 refine⟨some ⟨g,0,none⟩,ts.length,rfl,qAi _,by simp only[maxLen];omega,fun _=>⟨_,rfl,hg,fun j t ht=>⟨_,fun i u hu=> ?_,rfl,ha t (qAl ht)⟩⟩⟩
 match i,hu with
 |0,hu=>simp at hu;subst hu;rw[e];exact hcell (j*2) _ (qC2 ht)
 |1,hu=>simp at hu;subst hu;rw[e];exact hcell (j*2+1) _ (qC1 ht)
 |i+2,hu=>simp at hu
theorem lit_lt {g K:Nat} {cs:Array Value} (h:Blk w g 41 cs) (hlo:N≤g) (hc:cs.toList=T2 ts) (ha:A64 ts) (hn:ts.length=n) (hm:n≤1000):tysL.R (fun b=>b<K∨N≤b∧b<w.heap.size) w [.slice (some ⟨g,0,none⟩) n n] ts:=lit_sl h (.inr ⟨hlo,h.lt⟩) hc ha hn hm
theorem qBE {k:Int} (h:0≤k) (h':k≤1000):I64 k:=⟨by omega,by omega⟩
theorem qJu (h:I64 t.1∧I64 t.2) (ha:A64 ts):A64 (t::ts):=fun u hu=>by
 rcases List.mem_cons.1 hu with rfl|h1
 · exact h
 · exact ha u h1
def keyO:Op→Option (Nat×Nat×Nat)
 | .indexAddr T _ _=>some (0,T,0)| .fieldAddr T _ f=>some (1,T,f)| .load T _=>some (2,T,0)| .slice T _ (some _) none none=>some (3,T,0)| .call c=>(match c.callee,c.argTypes.toList with| .builtin .len,[T]=>some (4,T,0)|_,_=>none)| .binOp .sub T _ _ _=>some (5,T,0)| .binOp .lss T _ _ _=>some (5,T,1)| .binOp .neq T _ _ _=>some (5,T,2)|_=>none
def nameO:List SV→Option (List Nat)
 |[]=>some []| .c (.q k)::l=>(nameO l).map (k::·)| .c (.i .i64 n)::l=>if 0≤n∧n<1000 then (nameO l).map ((1000+n.toNat)::·) else none|_=>none
def NumOK (qv:Nat→Value):Prop:=∀n:Nat,n<1000→qv (1000+n)= .int .i64 n
abbrev Ent:=(Nat×Nat×Nat)×List Nat×SV
def orcT (tab:List Ent) (op:Op) (l:List SV):Option SV:=(keyO op).bind fun k=>(nameO l).bind fun ns=>(tab.find? fun e=>e.1==k && e.2.1==ns).map (·.2.2)
def semO (qv:Nat→Value):(Nat×Nat×Nat)→List Nat→Sem Value
 |(0,T,_),[x,y]=>Instr.indexAt T (qv x) (qv y)|(1,T,f),[x]=>Instr.fieldAt T (qv x) f|(2,T,_),[x]=>Instr.loadAt T (qv x)|(3,T,_),[x,y]=>Instr.sliceAt T (qv x) (some (qv y)) none none|(4,T,_),[x]=>Builtin.len_ #[T] 0 #[qv x]
 |(5,T,k),[x,y]=>(match qv x,qv y with| .int i m,.int j n=>binOp (if k=0 then .sub else if k=1 then .lss else .neq) T (.int i m) (.int j n)|_,_=>stuck "")
 |_,_=>stuck ""
section
variable {P:Program} {qv:Nat→Value} {ad:Nat→Nat} {w w' w0:World}
theorem qD3 (hN:NumOK qv):∀{l:List SV} {ns:List Nat},nameO l=some ns→l.map (vs qv ad)=ns.map qv
 |[],ns,h=>by simp[nameO] at h;subst h;rfl
 | .c (.q k)::l,ns,h=>by
   simp only[nameO,Option.map_eq_some_iff] at h;obtain⟨ns',hn,rfl⟩:=h;simp only[List.map_cons,qD3 hN hn];rfl
 | .c (.i .i64 n)::l,ns,h=>by
   simp only[nameO] at h;split at h
   · rename_i h0
     simp only[Option.map_eq_some_iff] at h;obtain⟨ns',hn,rfl⟩:=h;have:=hN n.toNat (by omega);rw[Int.toNat_of_nonneg h0.1] at this;simp only[List.map_cons,qD3 hN hn,this];rfl
   · cases h
 | .a _::l,ns,h| .c (.y _)::l,ns,h| .c .z::l,ns,h| .c .u::l,ns,h| .c (.p _ _)::l,ns,h| .c (.s _ _ _ _)::l,ns,h=>by simp[nameO] at h
 | .c (.i .i8 _)::l,ns,h| .c (.i .i16 _)::l,ns,h| .c (.i .i32 _)::l,ns,h| .c (.i .u8 _)::l,ns,h| .c (.i .u16 _)::l,ns,h| .c (.i .u32 _)::l,ns,h| .c (.i .u64 _)::l,ns,h=>by simp[nameO] at h
theorem qHM {tab:List Ent} (hN:NumOK qv) (h:∀e∈tab,∀ad w,Below w0.heap.size w0 w→(semO qv e.1 e.2.1).run P w= .ok (vs qv ad e.2.2) w):OrcOK P w0 qv (orcT tab):=by
 intro o l r hr ad a w hl hO;simp only[orcT,Option.bind_eq_some_iff,Option.map_eq_some_iff] at hr;obtain⟨k,hk,ns,hn,e,he,rfl⟩:=hr;have h1:=List.find?_some he;simp only[Bool.and_eq_true,beq_iff_eq] at h1;have h2:=h e (List.mem_of_find?_eq_some he) ad w hO;rw[h1.1,h1.2] at h2;rw[qD3 hN hn] at hl;have two:∀{u v:Value},[u,v]=ns.map qv→∃x y,ns=[x,y]∧u=qv x∧v=qv y:=fun {u v} h=>by
  match ns,h with
  |[x,y],h=>simp at h;exact⟨x,y,rfl,h.1,h.2⟩
  |[],h|[_],h|_::_::_::_,h=>simp at h
 have one:∀{u:Value},[u]=ns.map qv→∃x,ns=[x]∧u=qv x:=fun {u} h=>by
  match ns,h with
  |[x],h=>simp at h;exact⟨x,rfl,h⟩
  |[],h|_::_::_,h=>simp at h
 unfold execOp;unfold keyO at hk;split at hk
 · rename_i heq;injection hk with hk;subst hk
   rw[heq] at hl⊢;obtain⟨x,y,rfl,e1,e2⟩:=two hl;simp only[e1,e2,Sem.run_bind,show(Instr.indexAt _ (qv x) (qv y)).run P w=_ from h2,Result.andThen_ok]
   rfl
 · rename_i heq;injection hk with hk;subst hk
   rw[heq] at hl⊢;obtain⟨x,rfl,e1⟩:=one hl;simp only[e1,Sem.run_bind,show(Instr.fieldAt _ (qv x) _).run P w=_ from h2,Result.andThen_ok]
   rfl
 · rename_i heq;injection hk with hk;subst hk
   rw[heq] at hl⊢;obtain⟨x,rfl,e1⟩:=one hl;simp only[e1,Sem.run_bind,show(Instr.loadAt _ (qv x)).run P w=_ from h2,Result.andThen_ok]
   rfl
 · rename_i heq;injection hk with hk;subst hk
   rw[heq] at hl⊢;obtain⟨x,y,rfl,e1,e2⟩:=two (by simpa[Op.operands] using hl);simp only[e1,e2,Option.map_some,Option.map_none,Sem.run_bind,show(Instr.sliceAt _ (qv x) (some (qv y)) none none).run P w=_ from h2,Result.andThen_ok]
   rfl
 · rename_i c heq
   split at hk
   · rename_i T hcal hty;injection hk with hk;subst hk
     rw[heq] at hl⊢;obtain⟨cal,args,tys⟩:=c;simp only at hcal hty;subst hcal
     match ns,h2 with
     |[x],h2=>
      obtain rfl:tys= #[T]:=Array.ext' hty;have ha:args.map a.eval= #[qv x]:=Array.ext' (by simpa[Op.operands,Call.operands] using hl);simp only[resolve,invoke,builtin,ha,Sem.run_bind,Sem.run_pure,Result.andThen_ok];have h3:∀ty,(Builtin.len_ #[T] ty #[qv x]).run P w=_:=fun _=>h2;simp only[h3,Result.andThen_ok]
     |[],h2|_::_::_,h2=>simp[semO,stuck,Sem.run] at h2
   · cases hk
 all_goals first
  |cases hk;done
  |skip
 all_goals
  rename_i heq;injection hk with hk;subst hk
  rw[heq] at hl⊢;obtain⟨x,y,rfl,e1,e2⟩:=two hl;simp only[semO] at h2;split at h2
  · rename_i i m j n hx hy
    simp[e1,e2,hx,hy,eqGuard] at h2⊢;simp[h2]
  · simp[stuck,Sem.run] at h2
theorem qCd {e c:Nat} (hu:P.underlying T=some (.slice e)) (hs:szT P e=some sz) (hj:j<n):(Instr.indexAt T (.slice (some p) n c) (.int .i64 j)).run P w= .ok (.pointer (some (p.add (j*sz)))) w:=by
 simp[Instr.indexAt,asIntOf,run_underlying hu,qCN hs,hj]
theorem qDI {f:Nat} {fs:Array Field} {fd:Field} (hu:P.underlying T=some (.struct fs)) (hf:fs[f]? =some fd) (hs:szT P fd.type=some (sz+1)):(Instr.fieldAt T (.pointer (some p)) f).run P w= .ok (.pointer (some (p.add fd.offset))) w:=by
 simp[Instr.fieldAt,run_underlying hu,hf,Instr.sureAddr,fieldPlace,qCN hs]
theorem qDJ {d:TypeDesc} {v:Value} (hu:P.underlying T=some d) (hd:d.isRow=false) (hc:w.cell? p=some v):(Instr.loadAt T (.pointer (some p))).run P w= .ok v w:=by
 have hagg:(isAgg T).run P w= .ok false w:=by
  unfold isAgg;rw[Sem.run_bind,run_underlying hu w]
  cases d<;>simp_all
 simp[Instr.loadAt,Instr.sureAddr,loadVar,hagg,load,Sem.run,hc]
theorem qDv {d:TypeDesc} {cs:List Value} (hu:P.underlying T=some d) (hd:d.isRow=true) (hs:szT P T=some cs.length) (hc:∀j v,cs[j]? =some v→w.cell? (p.add j)=some v):(Instr.loadAt T (.pointer (some p))).run P w= .ok (.agg cs.toArray) w:=by
 have hagg:(isAgg T).run P w= .ok true w:=by
  unfold isAgg;rw[Sem.run_bind,run_underlying hu w]
  cases d<;>simp_all
 simp[Instr.loadAt,Instr.sureAddr,loadVar,hagg,qCN hs,run_loadCells_list (P:=P) w p cs hc]
end
def intS (qI:Nat→Option Int):SL→Option Int
 | .i .i64 n=>if 0≤n∧n≤1000 then some n else none| .q k=>qI k|_=>none
def pairS (qI:Nat→Option Int):List SL→Option (List Typ)
 |[]=>some []
 |a::b::l=>match intS qI a,intS qI b,pairS qI l with
  |some m,some n,some ts=>some ((m,n)::ts)
  |_,_,_=>none
 |_=>none
def tysS (qI:Nat→Option Int) (qT:Nat→Option (List Typ)) (nw:List Bk):SL→Option (List Typ)
 | .z=>some []
 | .q k=>qT k
 | .s b 0 n c=>if n=c then match nw[b]? with
   |some (some (T,cs))=>if T=41∧cs.length=n*2∧n≤1000 then pairS qI cs else none
   |_=>none else none
 |_=>none
def IntOK (qv:Nat→Value) (qI:Nat→Option Int):Prop:=∀k n,qI k=some n→qv k= .int .i64 n∧I64 n
def TysOK (w:World) (qv:Nat→Value) (qT:Nat→Option (List Typ)):Prop:=∀k l,qT k=some l→∃A n c,qv k= .slice A n c∧tysL.R (·<w.heap.size) w [.slice A n c] l
theorem qFl {qv:Nat→Value} {qI:Nat→Option Int} {ad:Nat→Nat} (hI:IntOK qv qI):∀(cs:List SL) {l:List Typ},pairS qI cs=some l→cs.map (lv qv ad)=T2 l∧cs.length=l.length*2∧A64 l
 |[],l,h=>by simp[pairS] at h;subst h;exact⟨rfl,rfl,A64.nil⟩
 |[_],l,h=>by simp[pairS] at h
 |a::b::cs,l,h=>by
  have one:∀{x:SL} {m},intS qI x=some m→lv qv ad x= .int .i64 m∧I64 m:=fun {x m} hx=>by
   cases x with
   |i k n=>cases k<;>simp[intS] at hx;obtain⟨h,rfl⟩:=hx;exact⟨rfl,qBE h.1 h.2⟩
   |q k=>exact hI k m hx
   |_=>simp[intS] at hx
  unfold pairS at h;split at h
  · rename_i m n ts h1 h2 h3
    injection h with h;subst h;obtain⟨e1,e2,e3⟩:=qFl (ad:=ad) hI cs h3;exact⟨by simp[(one h1).1,(one h2).1,e1,T2],by simp;omega,qJu ⟨(one h1).2,(one h2).2⟩ e3⟩
  · cases h
theorem qEv {w':World} {qv:Nat→Value} {qI:Nat→Option Int} {qT:Nat→Option (List Typ)} {ad ad':Nat→Nat} {nw:List Bk} {x:SL} {l:List Typ} (hI:IntOK qv qI) (hT:TysOK w qv qT) (hp:Post qv ad [] nw w w' ad') (h:tysS qI qT nw x=some l):
 ∃A n c,lv qv ad' x= .slice A n c∧tysL.R (fun b=>b<w.heap.size∨w.heap.size≤b∧b<w'.heap.size) w' [.slice A n c] l:=by
 unfold tysS at h;split at h
 · injection h with h;subst h
   exact⟨none,0,0,rfl,qCn _ _ _⟩
 · obtain⟨A,n,c,e,hr⟩:=hT _ _ h
   exact⟨A,n,c,e,tysL.wide (tysL.keep hr fun b hb=>hp.bw.block b hb) fun b hb=> .inl hb⟩
 · split at h
   · rename_i b n c e
     subst e;split at h
     · rename_i T cs hb
       split at h
       · rename_i hc
         obtain⟨rfl,h2,h3⟩:=hc;obtain⟨e1,e2,ha⟩:=qFl (ad:=ad') hI cs h;obtain⟨g1,g2⟩:=hp.new b _ cs hb;simp only[List.length_nil,Nat.zero_add] at g1 g2;exact⟨_,_,_,rfl,lit_lt (ts:=l) g2 g1 (by simpa using e1) ha (by omega) h3⟩
       · cases h
     · cases h
   · cases h
 · cases h
theorem qFs {n:Int} (h:n<0):locB f n=(8,0):=by simp[locB,h]
theorem qJD {n:Int} (hn:n=(j:Int)) (h:f.args[j]? =some t):locB f n=t:=by
 subst hn;have hj:=(qAj.1 h).1;simp only[locB,Int.toNat_natCast,List.getElem?_append_left hj,h];rw[if_neg (by omega)]
 rfl
theorem qJB {n:Int} (hn:n-(f.args.length:Int)=(j:Int)) (h:f.locs[j]? =some t):locB f n=t:=by
 have e:n.toNat=f.args.length+j:=by omega
 simp only[locB,e];rw[if_neg (by omega),List.getElem?_append_right (by omega),Nat.add_sub_cancel_left,h]
 rfl
theorem qFr {n:Int} (h:(f.args.length:Int)+(f.locs.length:Int)≤n):locB f n=(8,0):=by
 simp only[locB];rw[if_neg (by omega),List.getElem?_eq_none (by rw[List.length_append];omega)]
 rfl
theorem qH2 (A0 A1 A2:Option Addr) (u0 u1 u2 c0 c1 c2:Nat) (r1 r2:Int) (f:Fn) (n:Int) (w:World) (h0:f.args.length=u0) (h1:f.locs.length=u1) (s0:Sq typL (·<w.heap.size) w A0 f.args) (s1:Sq typL (·<w.heap.size) w A1 f.locs)
 (b0:u0≤9223372036854775807) (b1:u1≤9223372036854775807) (hn:I64 n):Calls Tryz.prog 99 #[.agg #[.slice A0 u0 c0,.int .i64 r1,.int .i64 r2,.slice A1 u1 c1,.slice A2 u2 c2],.int .i64 n] w (TypIs (locB f n) w):=by
 obtain⟨hn1,hn2⟩:=hn;have HP:=qAg (fun w=>qF1 A0 u0 c0 n w);have HQ:=qAg (fun w=>qF1 A1 u1 c1 (n-(u0:Int)) w)
 by_cases ha:0≤n∧n<(u0:Int)
 · obtain⟨j,hj⟩:∃j:Nat,n=(j:Int):=⟨n.toNat,by omega⟩
   subst hj;obtain⟨t,ht⟩:∃t,f.args[j]? =some t:=⟨f.args[j]'(by omega),List.getElem?_eq_getElem _⟩;have HT:=qAg (qJD rfl ht);obtain⟨a,cs,rfl,hab,hc,hr⟩:=s0.at ht;obtain⟨rfl,-,-⟩:=hr;refine qAN ?_;intro k0 k1;rw[qAm a (j*2) 1 (by omega)] at k1;rw[show hasB u0 (j:Int)=true by simp[hasB];omega] at HP;have j1:(j:Int)<(u0:Int):=by omega
   clear hc ht s0 s1 h0 h1 HQ
   go_enter Tryz.func99,Tryz.ntmps99
   go_wp2_with (first
    |(go_at_call 113
      refine(HP.out _).mono ?_;rintro e w1 ⟨rfl,rfl⟩))
   exact zK
 · rw[show hasB u0 n=false by simp[hasB];omega] at HP
   by_cases hb:(u0:Int)≤n
   · by_cases hd:n-(u0:Int)<(u1:Int)
     · obtain⟨j,hj⟩:∃j:Nat,n-(u0:Int)=(j:Int):=⟨(n-(u0:Int)).toNat,by omega⟩
       obtain⟨t,ht⟩:∃t,f.locs[j]? =some t:=⟨f.locs[j]'(by omega),List.getElem?_eq_getElem _⟩;have HT:=qAg (qJB (by rw[h0];exact hj) ht);obtain⟨a,cs,rfl,hab,hc,hr⟩:=s1.at ht;obtain⟨rfl,-,-⟩:=hr;refine qAN ?_;intro k0 k1;rw[qAm a (j*2) 1 (by omega)] at k1;rw[show hasB u1 (n-(u0:Int))=true by simp[hasB];omega] at HQ;have j1:(j:Int)<(u1:Int):=by omega
       rw[hj] at HQ;clear hc ht s0 s1 h0 h1 ha hd
       go_enter Tryz.func99,Tryz.ntmps99
       go_wp2_with (first
        |(go_at_call 113
          with_reducible refine(HP.out _).mono ?_
          rintro e w1 ⟨rfl,rfl⟩)
        |(go_at_call 113
          refine(HQ.out _).mono ?_;rintro e w1 ⟨rfl,rfl⟩))
       exact zK
     · have HT:=qAg (qFr (f:=f) (n:=n) (by rw[h0,h1];omega))
       rw[show hasB u1 (n-(u0:Int))=false by simp[hasB];omega] at HQ;obtain⟨z,hz⟩:∃z,n-(u0:Int)=z:=⟨_,rfl⟩;have z1: -9223372036854775808≤z:=by omega
       have z2:z≤9223372036854775807:=by omega
       rw[hz] at HQ;clear s0 s1 h0 h1 ha hd
       go_enter Tryz.func99,Tryz.ntmps99
       go_wp2_with (first
        |(go_at_call 113
          with_reducible refine(HP.out _).mono ?_
          rintro e w1 ⟨rfl,rfl⟩)
        |(go_at_call 113
          refine(HQ.out _).mono ?_;rintro e w1 ⟨rfl,rfl⟩))
       exact zP
   · have HT:=qAg (qFs (f:=f) (n:=n) (by omega))
     clear s0 s1 h0 h1 ha
     go_enter Tryz.func99,Tryz.ntmps99
     go_wp2_with (first
      |(go_at_call 113
        refine(HP.out _).mono ?_;rintro e w1 ⟨rfl,rfl⟩))
     exact zP
structure Cx (w:World) (A0 A1 A2 A3 A4 P0 P1 P2 D:Option Addr) (n0 n1 n2 n3 n4 d0 d1 d2 d3 d4 ua ul uc c0 c1 c2 k g:Nat) (x:Mod) (f:Fn) (ts:List Typ):Prop where
 l0:x.recs.length=n0
 l1:x.funcs.length=n1
 l2:x.imps.length=n2
 s0:Sq tysL (·<w.heap.size) w A0 x.recs
 s1:Sq fnL (·<w.heap.size) w A1 x.funcs
 s2:Sq impL (·<w.heap.size) w A2 x.imps
 g0:f.args.length=ua
 g1:f.locs.length=ul
 t0:Sq typL (·<w.heap.size) w P0 f.args
 t1:Sq typL (·<w.heap.size) w P1 f.locs
 rt:I64 f.ret.1∧I64 f.ret.2
 hk:ts.length=k
 sk:Sq typL (·<w.heap.size) w D ts
 b0:n0≤1000
 b1:n1≤1000
 b2:n2≤1000
 b3:ua≤1000
 b4:ul≤1000
 b5:k≤1000
theorem qHP {n:Int} (h:A64 f.args) (h':A64 f.locs):I64 (locB f n).1∧I64 (locB f n).2:=by
 have hd:I64 ((8,0):Typ).1∧I64 ((8,0):Typ).2:=⟨qBE (by omega) (by omega),qBE (by omega) (by omega)⟩;unfold locB;split
 · exact hd
 · cases e:(f.args++f.locs)[n.toNat]? with
   |none=>exact hd
   |some t=>exact(h.app h') t (qAl e)
theorem qDe {s:List Typ} (h:A64 s):I64 (topB s n).1∧I64 (topB s n).2:=by
 have hd:I64 ((8,0):Typ).1∧I64 ((8,0):Typ).2:=⟨qBE (by omega) (by omega),qBE (by omega) (by omega)⟩;unfold topB;split
 · cases e:s[s.length-1-n]? with
   |none=>exact hd
   |some t=>exact h t (qAl e)
 · exact hd
noncomputable def fnC (f:Nat):Option Func:=if f=69 then some Tryz.f69 else if f=96 then some Tryz.f96 else if f=97 then some Tryz.f97 else if f=98 then some Tryz.f98 else if f=101 then some Tryz.f101 else if f=102 then some Tryz.f102 else none
theorem qJa:FnOK Tryz.prog fnC:=by
 intro f fn h;unfold fnC at h
 repeat' split at h
 all_goals first
  |cases h;done
  |(rename_i e;subst e;injection h with h;subst h;exact⟨by kernel_rfl,by kernel_rfl⟩)
def nv (L:List Value) (k:Nat):Value:=if k<1000 then (L[k]?).getD (.bool true) else .int .i64 ((k-1000:Nat):Int)
theorem qI6 (h:∀v∈L,v.oneCell'=true) (k:Nat):(nv L k).oneCell'=true:=by
 unfold nv;split
 · cases e:L[k]? with
   |none=>rfl
   |some v=>exact h v (qAl e)
 · rfl
theorem qD2 (L:List Value):NumOK (nv L):=fun n _=>by
 unfold nv;rw[if_neg (by omega),Nat.add_sub_cancel_left]
theorem qHX (h:L.all Value.oneCell'=true) (hE:∀v∈E,v.oneCell'=true):∀v∈L++E,v.oneCell'=true:=fun v hv=>(List.mem_append.1 hv).elim (List.all_eq_true.1 h v) (hE v)
def tysR (qI:Nat→Option Int) (qT:Nat→Option (List Typ)):Option (SV×List Bk)→Option (List Typ×List Typ)
 |some (.a [x,y],nw)=>match tysS qI qT nw x,tysS qI qT nw y with
  |some l,some m=>some (l,m)
  |_,_=>none
 |_=>none
def numC (f:Fn) (ts:List Typ) (ia ib:Int) (q:Typ):List Int:=[ia,ib,(locB f ia).1,(locB f ia).2,(topB ts 0).1,(topB ts 0).2,(topB ts 1).1,(topB ts 1).2,f.ret.1,f.ret.2,q.1,q.2]
def spC (g:Nat) (l:List SV):Option SV:=match l with
 |[.a [.q 5,.q 17,.q 18,.q 6,.q 7],.c (.q 9)]=>if g=99 then some (.a [.q 11,.q 12]) else none
 |[.c (.q 8),.c (.i .i64 n)]=>if g=100 then if n=0 then some (.a [.q 13,.q 14]) else if n=1 then some (.a [.q 15,.q 16]) else none else none
 |_=>none
def argC (o:Int):List SV:=[.a [.q 0,.q 1,.q 2,.q 3,.q 4],.a [.q 5,.q 17,.q 18,.q 6,.q 7],.a [.i .i64 o,.q 9,.q 10],.c (.q 8)]
def qiC (I:List Int) (k:Nat):Option Int:=if 9≤k then I[k-9]? else none
def qtC (o:Option (List Typ)) (k:Nat):Option (List Typ):=if k=23 then o else none
noncomputable def evK (I:List Int) (tab:List Ent) (o:Option (List Typ)) (op:Int):Option (List Typ×List Typ):=tysR (qiC I) (qtC o) (evB Tryz.prog fnC (orcT tab) (evF Tryz.prog fnC (orcT tab) spC 2) 69 (argC op) [])
section
variable {A0 A1 A2 A3 A4 P0 P1 P2 D:Option Addr} {n0 n1 n2 n3 n4 d0 d1 d2 d3 d4 ua ul uc c0 c1 c2 k g:Nat} {x:Mod} {f:Fn} {ts:List Typ} {ia ib:Int} {w:World} {q:Typ}
abbrev nvC (A0 A1 A2 A3 A4 P0 P1 P2 D:Option Addr) (n0 n1 n2 n3 n4 d0 d1 d2 d3 d4 ua ul uc c0 c1 c2 k g:Nat) (I:List Int) (E:List Value):List Value:=[.slice A0 n0 d0,.slice A1 n1 d1,.slice A2 n2 d2,.slice A3 n3 d3,.slice A4 n4 d4,.slice P0 ua c0,.slice P1 ul c1,.slice P2 uc c2,.slice D k g]++(I.map (.int .i64)++E)
theorem spC_ok (H:Cx w A0 A1 A2 A3 A4 P0 P1 P2 D n0 n1 n2 n3 n4 d0 d1 d2 d3 d4 ua ul uc c0 c1 c2 k g x f ts) (hia:I64 ia):SpOK Tryz.prog w (nv (nvC A0 A1 A2 A3 A4 P0 P1 P2 D n0 n1 n2 n3 n4 d0 d1 d2 d3 d4 ua ul uc c0 c1 c2 k g (numC f ts ia ib q) E)) spC:=by
 intro h l r hr;have hF:Callee Tryz.prog 100:=⟨_,Tryz.func100,by kernel_rfl,by kernel_rfl⟩;unfold spC at hr;split at hr
 · split at hr
   · rename_i e
     subst e;injection hr with hr;subst hr;refine⟨⟨_,Tryz.func99,by kernel_rfl,by kernel_rfl⟩,fun ad v hb=> ?_⟩;exact qH2 P0 P1 P2 ua ul uc c0 c1 c2 f.ret.1 f.ret.2 f ia v H.g0 H.g1 ((H.t0.below hb (qAi _)).wide fun i hi=>qAh hi hb.size) ((H.t1.below hb (qAi _)).wide fun i hi=>qAh hi hb.size) (by have:=H.b3;omega) (by have:=H.b4;omega) hia
   · cases hr
 · rename_i n
   split at hr
   · rename_i e
     subst e;have ft:=fun(m:Nat) (v:World) (hb:Below w.heap.size w v) (hm:m≤1)=>qF4 D k g m ts v H.hk ((H.sk.below hb (qAi _)).wide fun i hi=>qAh hi hb.size) (by have:=H.b5;omega) hm;split at hr
     · rename_i e
       subst e;injection hr with hr;subst hr;exact⟨hF,fun ad v hb=>ft 0 v hb (by omega)⟩
     · split at hr
       · rename_i e
         subst e;injection hr with hr;subst hr;exact⟨hF,fun ad v hb=>ft 1 v hb (by omega)⟩
       · cases hr
   · cases hr
 · cases hr
theorem qCf {tab:List Ent} {o:Option (List Typ)} {op:Int} {ins outs:List Typ} (H:Cx w A0 A1 A2 A3 A4 P0 P1 P2 D n0 n1 n2 n3 n4 d0 d1 d2 d3 d4 ua ul uc c0 c1 c2 k g x f ts) (hia:I64 ia) (hib:I64 ib) (hq:I64 q.1∧I64 q.2) (hE:∀v∈E,v.oneCell'=true)
 (htab:∀e∈tab,∀w',Below w.heap.size w w'→(semO (nv (nvC A0 A1 A2 A3 A4 P0 P1 P2 D n0 n1 n2 n3 n4 d0 d1 d2 d3 d4 ua ul uc c0 c1 c2 k g (numC f ts ia ib q) E)) e.1 e.2.1).run Tryz.prog w'= .ok (vs (nv (nvC A0 A1 A2 A3 A4 P0 P1 P2 D n0 n1 n2 n3 n4 d0 d1 d2 d3 d4 ua ul uc c0 c1 c2 k g (numC f ts ia ib q) E)) id e.2.2) w'∧e.2.2.refs=[])
 (ho:∀l,o=some l→∃B m c,E[2]? =some (.slice B m c)∧tysL.R (·<w.heap.size) w [.slice B m c] l) (hev:evK (numC f ts ia ib q) tab o op=some (ins,outs)):
 Calls Tryz.prog 69 #[.agg #[.slice A0 n0 d0,.slice A1 n1 d1,.slice A2 n2 d2,.slice A3 n3 d3,.slice A4 n4 d4],.agg #[.slice P0 ua c0,.int .i64 f.ret.1,.int .i64 f.ret.2,.slice P1 ul c1,.slice P2 uc c2],.agg #[.int .i64 op,.int .i64 ia,.int .i64 ib],.slice D k g] w (Chgs w.heap.size ins outs w):=by
 generalize hL:nvC A0 A1 A2 A3 A4 P0 P1 P2 D n0 n1 n2 n3 n4 d0 d1 d2 d3 d4 ua ul uc c0 c1 c2 k g (numC f ts ia ib q) E=L at htab;have hq1:∀k,(nv L k).oneCell'=true:=qI6 (hL▸qHX rfl fun v hv=>(List.mem_append.1 hv).elim (fun h=>by obtain⟨n,-,rfl⟩:=List.mem_map.1 h;rfl) (hE v));have h64:∀n∈numC f ts ia ib q,I64 n:=fun n hn=>by
  have hl:=qHP (n:=ia) H.t0.a64 H.t1.a64;have h0:=qDe (n:=0) H.sk.a64;have h1:=qDe (n:=1) H.sk.a64;have hr:=H.rt;simp only[numC,List.mem_cons,List.not_mem_nil,or_false] at hn;rcases hn with rfl|rfl|rfl|rfl|rfl|rfl|rfl|rfl|rfl|rfl|rfl|rfl
  · exact hia
  · exact hib
  · exact hl.1
  · exact hl.2
  · exact h0.1
  · exact h0.2
  · exact h1.1
  · exact h1.2
  · exact hr.1
  · exact hr.2
  · exact hq.1
  · exact hq.2
 have hI:IntOK (nv L) (qiC (numC f ts ia ib q)):=fun j n h=>by
  unfold qiC at h;split at h
  · exact qo
  · cases h
 have hT:TysOK w (nv L) (qtC o):=fun j l h=>by
  subst hL;unfold qtC at h;split at h
  · rename_i e
    subst e;obtain⟨B,m,c,h1,h2⟩:=ho l h;exact⟨B,m,c,by simp[nv,nvC,numC,h1],h2⟩
  · cases h
 have hO:OrcOK Tryz.prog w (nv L) (orcT tab):=qHM (qD2 L) fun e he ad w' hb=>by
  obtain⟨h1,h2⟩:=htab e he w' hb;rw[h1,qB4 (ad:=id) (ad':=ad) fun j hj=>(by rw[h2] at hj;cases hj)]
 unfold evK at hev
 cases hR:evB Tryz.prog fnC (orcT tab) (evF Tryz.prog fnC (orcT tab) spC 2) 69 (argC op) [] with
 |none=>rw[hR] at hev;simp[tysR] at hev
 |some R=>
  obtain⟨r,nw⟩:=R;rw[hR] at hev;unfold tysR at hev;split at hev
  · rename_i y y' nw' e
    injection e with e;injection e with e1 e2;subst e1;subst e2;split at hev
    · rename_i l m h1 h2
      injection hev with hev;injection hev with e1 e2;subst e1;subst e2;obtain⟨-,hC⟩:=qJi (fnT:=fnC) qV hq1 qJa (qJg qV hq1 qJa hO (by subst hL;exact spC_ok H hia) 2) hO _ _ _ _ _ hR;have:=hC id w ⟨fun j T cs h=>by simp at h,fun i j A B h=>by simp at h,fun j A h=>by simp at h,fun j T cs h=>by simp at h⟩ (qAk _ _) (fun v hv j hj=>by simp[argC] at hv;rcases hv with rfl|rfl|rfl|rfl<;>simp[SV.refs,refsL,SL.refs] at hj);subst hL;refine this.mono fun e w' ⟨ad',hp,he⟩=> ?_;obtain⟨B1,m1,k1,e1,t1⟩:=qEv hI hT hp h1;obtain⟨B2,m2,k2,e2,t2⟩:=qEv hI hT hp h2;exact⟨hp.bw,B1,m1,k1,B2,m2,k2,by rw[he,←e1,←e2];rfl,t1,t2⟩
    · cases hev
  · cases hev
end
section
variable {x:Mod} {f:Fn} {ts qs:List Typ} {ia ib:Int} {q:Typ}
theorem qJf:∀o:Nat,o≤41→o≠25→o≠27→o≠28→o≠29→o≠30→evK (numC f ts ia ib q) [] none o=some (chgB x f (o,ia,ib) ts):=by
 intro o h0 h1 h2 h3 h4 h5
 iterate 42 (rcases o with _|o;· first|omega|kernel_rfl)
 omega
def tabA (n T U:Nat):List Ent:=[((0,T,0),[n,9],.c (.q 21)),((1,U,0),[21],.c (.q 21)),((1,U,1),[21],.c (.q 22)),((2,39,0),[21],.c (.q 23)),((2,41,0),[22],.a [.q 19,.q 20])]
theorem ev_25:evK (numC f ts ia ib q) (tabA 1 23 44) (some qs) 25=some (qs,[q]):=by kernel_rfl
theorem ev_27:evK (numC f ts ia ib q) (tabA 2 24 56) (some qs) 27=some (qs,[q]):=by kernel_rfl
def tabR:List Ent:=[((0,22,0),[0,9],.c (.q 21)),((2,39,0),[21],.c (.q 23)),((0,39,0),[23,10],.c (.q 24)),((2,41,0),[24],.a [.q 19,.q 20])]
theorem ev_28:evK (numC f ts ia ib q) (tabR.take 2) (some qs) 28=some (qs,[(4,ia)]):=by kernel_rfl
theorem ev_29:evK (numC f ts ia ib q) tabR (some qs) 29=some ([(4,ia)],[q]):=by kernel_rfl
theorem ev_30:evK (numC f ts ia ib q) tabR (some qs) 30=some ([(4,ia),q],[]):=by kernel_rfl
end
theorem qDf {U C:Nat} {a:Addr} {v0:Value} {q:Typ} (hn:nv L n= .slice (some a) N C) (h9:nv L 9= .int .i64 j) (h21:nv L 21= .pointer (some (a.add (j*sz)))) (h22:nv L 22= .pointer (some ((a.add (j*sz)).add 1))) (h23:nv L 23=v0) (h19:nv L 19= .int .i64 q.1) (h20:nv L 20= .int .i64 q.2)
 (hu:Tryz.prog.underlying T=some (.slice U)) (hs:szT Tryz.prog U=some sz) {fs:Array Field} {f0 f1:Field} (hf:Tryz.prog.underlying U=some (.struct fs)) (e0:fs[0]? =some f0) (o0:f0.offset=0) (s0:szT Tryz.prog f0.type=some 1) (e1:fs[1]? =some f1) (o1:f1.offset=1) (s1:szT Tryz.prog f1.type=some 2)
 (hj:j<N) (hb:a.block<w.heap.size) (hc:∀(i:Nat) u,[v0,.int .i64 q.1,.int .i64 q.2][i]? =some u→w.cell? (a.add (j*sz+i))=some u):
 ∀e∈tabA n T U,∀w',Below w.heap.size w w'→(semO (nv L) e.1 e.2.1).run Tryz.prog w'= .ok (vs (nv L) id e.2.2) w'∧e.2.2.refs=[]:=by
 intro e he w' hw;have hcell:∀(i:Nat) u,[v0,.int .i64 q.1,.int .i64 q.2][i]? =some u→w'.cell? ((a.add (j*sz)).add i)=some u:=fun i u hi=>by
  rw[qCG,hw.cell (by rw[qAz];exact hb)];exact hc i u hi
 simp only[tabA,List.mem_cons,List.not_mem_nil,or_false] at he;rcases he with rfl|rfl|rfl|rfl|rfl
 · exact⟨by simp only[semO,hn,h9,vs,lv,h21];exact qCd hu hs hj,rfl⟩
 · refine⟨?_,rfl⟩
   have:=qDI (w:=w') (p:=a.add (j*sz)) hf e0 s0;rw[o0,show(a.add (j*sz)).add 0=a.add (j*sz) from rfl] at this;simpa only[semO,h21,vs,lv] using this
 · refine⟨?_,rfl⟩
   have:=qDI (w:=w') (p:=a.add (j*sz)) hf e1 s1;rw[o1] at this;simpa only[semO,h21,h22,vs,lv] using this
 · exact⟨by simp only[semO,h21,h23,vs,lv];exact qDJ Tryz.underlying39 rfl (hcell 0 v0 rfl),rfl⟩
 · refine⟨?_,rfl⟩
   have:=qDv (w:=w') (P:=Tryz.prog) (T:=41) (p:=(a.add (j*sz)).add 1) (cs:=[.int .i64 q.1,.int .i64 q.2]) Tryz.underlying41 rfl qV fun i u hi=>by
    rw[qCG];exact hcell (1+i) u (by rw[Nat.add_comm];exact hi)
   simpa only[semO,h22,h19,h20,vs,lv,List.map] using this
theorem qEw {C M' C':Nat} {a:Addr} {B:Option Addr} (h0:nv L 0= .slice (some a) N C) (h9:nv L 9= .int .i64 j) (h21:nv L 21= .pointer (some (a.add j))) (h23:nv L 23= .slice B M' C')
 (hj:j<N) (hb:a.block<w.heap.size) (hc:w.cell? (a.add j)=some (.slice B M' C')):∀e∈tabR.take 2,∀w',Below w.heap.size w w'→(semO (nv L) e.1 e.2.1).run Tryz.prog w'= .ok (vs (nv L) id e.2.2) w'∧e.2.2.refs=[]:=by
 intro e he w' hw;simp only[tabR,List.take,List.mem_cons,List.not_mem_nil,or_false] at he;rcases he with rfl|rfl
 · refine⟨?_,rfl⟩
   have:=qCd (w:=w') (p:=a) (n:=N) (c:=C) Tryz.underlying22 (show szT Tryz.prog 39=some 1 by kernel_rfl) hj;rw[Nat.mul_one] at this;simpa only[semO,h0,h9,vs,lv,h21] using this
 · exact⟨by simp only[semO,h21,h23,vs,lv];exact qDJ Tryz.underlying39 rfl ((hw.cell (by rw[qAz];exact hb)).trans hc),rfl⟩
theorem qIZ {l M' C':Nat} {b:Addr} {q:Typ} (h10:nv L 10= .int .i64 l) (h23:nv L 23= .slice (some b) M' C') (h24:nv L 24= .pointer (some (b.add (l*2)))) (h19:nv L 19= .int .i64 q.1) (h20:nv L 20= .int .i64 q.2)
 (hl:l<M') (hb:b.block<w.heap.size) (hc:∀(i:Nat) u,[.int .i64 q.1,.int .i64 q.2][i]? =some u→w.cell? (b.add (l*2+i))=some u)
 (h:∀e∈tabR.take 2,∀w',Below w.heap.size w w'→(semO (nv L) e.1 e.2.1).run Tryz.prog w'= .ok (vs (nv L) id e.2.2) w'∧e.2.2.refs=[]):∀e∈tabR,∀w',Below w.heap.size w w'→(semO (nv L) e.1 e.2.1).run Tryz.prog w'= .ok (vs (nv L) id e.2.2) w'∧e.2.2.refs=[]:=by
 intro e he w' hw;have he':e∈tabR.take 2∨e∈tabR.drop 2:=by rw[←List.mem_append,List.take_append_drop];exact he
 rcases he' with he|he
 · exact h e he w' hw
 · simp only[tabR,List.drop,List.mem_cons,List.not_mem_nil,or_false] at he
   rcases he with rfl|rfl
   · exact⟨by simp only[semO,h23,h10,vs,lv,h24];exact qCd Tryz.underlying39 qV hl,rfl⟩
   · refine⟨?_,rfl⟩
     have:=qDv (w:=w') (P:=Tryz.prog) (T:=41) (p:=b.add (l*2)) (cs:=[.int .i64 q.1,.int .i64 q.2]) Tryz.underlying41 rfl qV fun i u hi=>by
      rw[qCG];exact(hw.cell (by rw[qAz];exact hb)).trans (hc i u hi)
     simpa only[semO,h24,h19,h20,vs,lv,List.map] using this
theorem qG7 (A0 A1 A2 A3 A4 P0 P1 P2 D:Option Addr) (n0 n1 n2 n3 n4 d0 d1 d2 d3 d4 ua ul uc c0 c1 c2 k g:Nat) (x:Mod) (f:Fn) (ts:List Typ) (o ia ib:Int) (w:World) (H:Cx w A0 A1 A2 A3 A4 P0 P1 P2 D n0 n1 n2 n3 n4 d0 d1 d2 d3 d4 ua ul uc c0 c1 c2 k g x f ts) (hg:goodI o ia ib=true) (hn:namedB x f (o,ia,ib)=true):Calls Tryz.prog 69 #[.agg #[.slice A0 n0 d0,.slice A1 n1 d1,.slice A2 n2 d2,.slice A3 n3 d3,.slice A4 n4 d4],.agg #[.slice P0 ua c0,.int .i64 f.ret.1,.int .i64 f.ret.2,.slice P1 ul c1,.slice P2 uc c2],.agg #[.int .i64 o,.int .i64 ia,.int .i64 ib],.slice D k g] w (Chgs w.heap.size (chgB x f (o,ia,ib) ts).1 (chgB x f (o,ia,ib) ts).2 w):=by
 obtain⟨o1,j,l,rfl,rfl,rfl,ho,hj,hl,-,-,-⟩:=qA6 hg;have hia:I64 (j:Int):=⟨by omega,by omega⟩;have hib:I64 (l:Int):=⟨by omega,by omega⟩;have one4:∀{p q r s:Value},p.oneCell'=true→q.oneCell'=true→r.oneCell'=true→s.oneCell'=true→∀v∈[p,q,r,s],v.oneCell'=true:=fun {p q r s} h1 h2 h3 h4 v hv=>by
  simp at hv;rcases hv with rfl|rfl|rfl|rfl<;>assumption
 by_cases h25:o1=25
 · subst h25
   simp[namedB] at hn;obtain⟨q,hq⟩:∃q,x.funcs[j]? =some q:=⟨x.funcs[j]'(by omega),List.getElem?_eq_getElem _⟩;have e:chgB x f ((25:Nat),(j:Int),(l:Int)) ts=(q.args,[q.ret]):=by simp[chgB,ruleB,hq]
   rw[e];obtain⟨a,cs,rfl,hab,hc,v0,v1,v2,rfl,hr1,hr2,ht,-,-⟩:=H.s1.at hq;obtain⟨B,c,e0,-⟩:=id ht;injection e0 with e0 _;subst e0;refine qCf (q:=q.ret) (E:=[.pointer (some (a.add (j*5))),.pointer (some ((a.add (j*5)).add 1)),.slice B q.args.length c,.bool true]) H hia hib ⟨hr1,hr2⟩ (one4 rfl rfl rfl rfl) (qDf (sz:=5) (j:=j) (v0:= .slice B q.args.length c) rfl rfl rfl rfl rfl rfl rfl Tryz.underlying23 qV Tryz.underlying44 rfl rfl qV rfl rfl qV (by have:=H.l1;omega) hab fun i u hi=>hc i u ?_) (fun l h=> ?_) ev_25
   · match i,hi with
     |0,hi|1,hi|2,hi=>simpa using hi
     |i+3,hi=>simp at hi
   · exact zj
 by_cases h27:o1=27
 · subst h27
   simp[namedB] at hn;obtain⟨q,hq⟩:∃q,x.imps[j]? =some q:=⟨x.imps[j]'(by omega),List.getElem?_eq_getElem _⟩;have e:chgB x f ((27:Nat),(j:Int),(l:Int)) ts=(q.args,[q.ret]):=by simp[chgB,ruleB,hq]
   rw[e];obtain⟨a,cs,rfl,hab,hc,v0,rfl,hr1,hr2,ht⟩:=H.s2.at hq;obtain⟨B,c,e0,-⟩:=id ht;injection e0 with e0 _;subst e0;refine qCf (q:=q.ret) (E:=[.pointer (some (a.add (j*3))),.pointer (some ((a.add (j*3)).add 1)),.slice B q.args.length c,.bool true]) H hia hib ⟨hr1,hr2⟩ (one4 rfl rfl rfl rfl) (qDf (sz:=3) (j:=j) (v0:= .slice B q.args.length c) rfl rfl rfl rfl rfl rfl rfl Tryz.underlying24 qV Tryz.underlying56 rfl rfl qV rfl rfl qV (by have:=H.l2;omega) hab hc) (fun l h=> ?_) ev_27;exact zj
 by_cases hrec:o1=28∨o1=29∨o1=30
 · cases hr:x.recs[j]? with
   |none=>
    exfalso;have:=List.getElem?_eq_none_iff.1 hr;rcases hrec with rfl|rfl|rfl<;>simp[namedB,hr] at hn
    omega
   |some r=>
    obtain⟨a,cs,rfl,hab,hc,B,c,rfl,hrc,hm,hsq⟩:=H.s0.at hr;have hc0:=hc 0 _ rfl;simp only[show(tysL:Lay (List Typ)).k=1 from rfl,Nat.mul_one,Nat.add_zero] at hc0;have hT:∀(p:Value) l',some r=some l'→∃B' m c',[Value.pointer (some (a.add j)),.bool true,.slice B r.length c,p][2]? =some (.slice B' m c')∧tysL.R (·<w.heap.size) w [.slice B' m c'] l':=fun p l' h=>by
     injection h with h;subst h;exact⟨_,_,_,rfl,B,c,rfl,hrc,hm,hsq⟩
    have hjn:j<n0:=by have:=(qAj.1 hr).1;have:=H.l0;omega
    rcases hrec with rfl|hrec
    · have e:chgB x f ((28:Nat),(j:Int),(l:Int)) ts=(r,[(4,(j:Int))]):=by simp[chgB,ruleB,hr]
      rw[e];exact qCf (q:=(0,0)) (E:=[.pointer (some (a.add j)),.bool true,.slice B r.length c,.bool true]) H hia hib ⟨qBE (by omega) (by omega),qBE (by omega) (by omega)⟩ (one4 rfl rfl rfl rfl) (qEw rfl rfl rfl rfl hjn hab hc0) (hT _) ev_28
    · obtain⟨t,ht⟩:∃t,r[l]? =some t:=⟨r[l]'(by rcases hrec with rfl|rfl<;>(simp[namedB,hr] at hn;omega)),List.getElem?_eq_getElem _⟩
      obtain⟨b,cs,rfl,hbb,hcb,rfl,ht1,ht2⟩:=hsq.at ht;refine qAT ?_;intro htab;rcases hrec with rfl|rfl
      · have e:chgB x f ((29:Nat),(j:Int),(l:Int)) ts=([(4,(j:Int))],[t]):=by simp[chgB,ruleB,fldB,hr,ht]
        rw[e];exact qCf (q:=t) (E:=[.pointer (some (a.add j)),.bool true,.slice (some b) r.length c,.pointer (some (b.add (l*2)))]) H hia hib ⟨ht1,ht2⟩ (one4 rfl rfl rfl rfl) (htab _ rfl rfl rfl rfl rfl rfl rfl rfl) (hT _) ev_29
      · have e:chgB x f ((30:Nat),(j:Int),(l:Int)) ts=([(4,(j:Int)),t],[]):=by simp[chgB,ruleB,fldB,hr,ht]
        rw[e];exact qCf (q:=t) (E:=[.pointer (some (a.add j)),.bool true,.slice (some b) r.length c,.pointer (some (b.add (l*2)))]) H hia hib ⟨ht1,ht2⟩ (one4 rfl rfl rfl rfl) (htab _ rfl rfl rfl rfl rfl rfl rfl rfl) (hT _) ev_30
 · exact qCf (q:=(0,0)) (E:=[]) (tab:=[]) (o:=none) H hia hib ⟨qBE (by omega) (by omega),qBE (by omega) (by omega)⟩ (by simp) (by simp) (by simp) (qJf o1 (by omega) h25 h27 (by omega) (by omega) (by omega))
end Go.Proofs.YtelceoecekfamaaGreat
