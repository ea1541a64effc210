/-
Lst Sxf Sxg Fcw
-/
import Derived.Test.YtgdbhanhmenmfaaGreatProg
import Derived.Test.YtgdbhanhmenmfaaGreatQ09
import Derived.Test.YtgdbhanhmenmfaaGreatQ28
import Derived.Deep.RegionHeld3
import Derived.Deep.RegionWith
import Derived.Deep.DeepCutAuto
set_option linter.unusedSimpArgs false
set_option linter.unusedVariables false
namespace Go.Proofs.YtgdbhanhmenmfaaGreat
open Go.RowKit
variable {j:Nat}{qBa:Array Bool}{ts:List Typ}{w:World}
section
variable {P:Program} {ops:Array Oper} {Q:Exit→Go.Act→World→Prop} {L:Oper}
def lastB (ops:Array Oper) (L:Oper):Bool:=
 (List.range ops.size).all (fun j=>L.after.toList.any fun e=>Region.binds .any e && e.on==j) && L.after.toList.all (fun e=>decide (e.on<ops.size)) && L.guard.isNone &&
 (List.range ops.size).all (fun j=>((ops[j]?).map fun o=>o.guard.isNone && o.after.toList.all (fun e=>decide (e.on<j))).getD true)
def lastQ (P:Program) (L:Oper) (Q:Exit→Go.Act→World→Prop):Exit→Go.Act→World→Prop
 | .normal,a,w=>L.wp P a w (fun a' w'=>Q .normal a' w') Q
 | .panic c,a,w=>Q (.panic c) a w
 | .outgrown,a,w=>Q .outgrown a w
 |e,a,w=>Q e a w
theorem qIj (h:lastB ops L=true) (hj:j<ops.size):∃e∈L.after,Region.binds .any e=true∧e.on=j:=by
 unfold lastB at h;simp only[Bool.and_eq_true,List.all_eq_true,List.mem_range,List.any_eq_true] at h;obtain⟨e,he,h1⟩:=h.1.1.1 j hj;simp only[beq_iff_eq] at h1;exact⟨e,Array.mem_toList_iff.1 he,h1.1,h1.2⟩
theorem qNl (h:lastB ops L=true) {e:Edge} (he:e∈L.after):e.on<ops.size:=by
 unfold lastB at h;simp only[Bool.and_eq_true,List.all_eq_true,decide_eq_true_eq] at h;exact h.1.1.2 e (Array.mem_toList_iff.2 he)
theorem qIi (h:lastB ops L=true):L.guard=none:=by
 unfold lastB at h;simp only[Bool.and_eq_true,Option.isNone_iff_eq_none] at h;exact h.1.2
theorem qIh (h:lastB ops L=true) {o:Oper} (ho:ops[j]? =some o):o.guard=none∧∀e∈o.after,e.on<j:=by
 unfold lastB at h;simp only[Bool.and_eq_true,List.all_eq_true,List.mem_range] at h;have:=h.2 j (Array.getElem?_eq_some_iff.1 ho).1;rw[ho] at this;simp only[Option.map_some,Option.getD_some,Bool.and_eq_true,Option.isNone_iff_eq_none,List.all_eq_true,decide_eq_true_eq] at this;exact⟨this.1,fun e he=>this.2 e (Array.mem_toList_iff.2 he)⟩
theorem qDs (hj:j<qBa.size):(qBa.push false).getD j true=qBa.getD j true:=by
 simp[Array.getElem?_push,Nat.ne_of_lt hj]
theorem qDk (qBa:Array Bool) (j:Nat):(qBa.push false).getD j false=qBa.getD j false:=by
 simp only[Array.getD_eq_getD_getElem?,Array.getElem?_push];split
 · rename_i e
   subst e;simp
 · rfl
theorem qFh (qBa:Array Bool):(qBa.push false).getD qBa.size true=false:=by simp
theorem qDH (hs:qBa.size=ops.size) (hj:j<ops.size):j∈Region.ready .any (ops.push L) (qBa.push false)↔j∈Region.ready .any ops qBa:=by
 rw[mem_ready,mem_ready,qDs (by omega),Array.getElem?_push,if_neg (by omega)];simp only[qDk]
theorem qDj (h:lastB ops L=true) (hs:qBa.size=ops.size):ops.size∈Region.ready .any (ops.push L) (qBa.push false)↔∀j,j<ops.size→qBa.getD j false=true:=by
 rw[mem_ready,←hs,qFh,hs,Array.getElem?_push,if_pos rfl];simp only[qDk,true_and,Option.some.injEq,exists_eq_left']
 constructor
 · intro h1 j hj
   obtain⟨e,he,h2,rfl⟩:=qIj h hj;exact h1 e he h2
 · exact fun h1 e he _=>h1 _ (qNl h he)
theorem qKa (h:lastB ops L=true) (hs:qBa.size=ops.size) (hr:Region.ready .any ops qBa=[]):∀j,j<ops.size→qBa.getD j false=true:=by
 intro j
 induction j using Nat.strongRecOn with
 |ind j ih=>
  intro hj
  cases hl:qBa.getD j false with
  |true=>rfl
  |false=>
   have hm:j∈Region.ready .any ops qBa:=by
    rw[mem_ready];have ho:ops[j]? =some ops[j]:=Array.getElem?_eq_getElem hj;refine⟨?_,_,ho,fun e he _=> ?_⟩
    · have hj':j<qBa.size:=by omega
      simp[hj'] at hl⊢;exact hl
    · have:=(qIh h ho).2 e he
      exact ih _ this (by omega)
   rw[hr] at hm
   cases hm
theorem qLI {o:Oper} {a:Go.Act} {K:Go.Act→World→Prop} (h:o.wp P a w K (lastQ P L Q)):o.wp P a w K Q:=by
 unfold Oper.wp at*;generalize (execOp a.eval o).run P w=r at*
 cases r with
 |ok n w'=>
  cases n<;>simp only[Oper.upon] at h⊢<;>
   first
    |exact h
    |exact Calls.mono h (fun e w'' he=>by cases e<;>exact he)
 |halt x w'=>cases x<;>simp only[Oper.upon] at h⊢<;>exact h
theorem qGM (h:LetsOut (lastQ P L Q)):LetsOut Q:=h
theorem qDr {md:Region.Mode} (h:j∈Region.ready md ops qBa):j<ops.size:=by
 rw[mem_ready] at h;obtain⟨-,o,ho,-⟩:=h;exact(Array.getElem?_eq_some_iff.1 ho).1
theorem qDm (h:lastB ops L=true) {fuel:Nat} {a:Go.Act} (hs:qBa.size=ops.size) (hr:Region.ready .any ops qBa=[]) (hq:L.wp P a w (fun a' w'=>Q .normal a' w') Q):
 wpAny P .any (ops.push L) Q (fuel+1) (qBa.push false) a w:=by
 have hall:=qKa h hs hr;have hin:=(qDj h hs).2 hall;refine⟨fun h0=>(by rw[h0] at hin;cases hin),fun i hi=> ?_⟩;have hil:=qDr hi;have he:i=ops.size:=by
  rcases Nat.lt_or_ge i ops.size with h1|h1
  · have:=(qDH hs h1).1 hi
    rw[hr] at this
    cases this
  · simp at hil;omega
 subst he;have hL:(ops.push L)[ops.size]? =some L:=by simp
 unfold wpOp;simp only[hL];have hw:Region.wanted L (yielded (ops.push L) a.tmps)=true:=by simp[Region.wanted,qIi h]
 rw[if_pos hw];refine .inl (Oper.wp_mono (fun a' w' hq'=> ?_) hq);have hr0:Region.ready .any (ops.push L) ((qBa.push false).setIfInBounds ops.size true)=[]:=by
  apply List.eq_nil_iff_forall_not_mem.2
  intro j hj;have hjl:=qDr hj;rw[mem_ready] at hj;obtain⟨h1,-⟩:=hj
  by_cases e:ops.size=j
  · subst e
    simp[hs] at h1
  · rw[getD_set_ne true e,qDs (by simp at hjl;omega)] at h1
    have:=hall j (by simp at hjl;omega);have hj':j<qBa.size:=by simp at hjl;omega
    simp[hj'] at h1 this;rw[this] at h1
    cases h1
 cases fuel with
 |zero=>exact⟨hr0,hq'⟩
 |succ fuel=>exact⟨fun _=>hq',by rw[hr0];intro i hi;cases hi⟩
theorem qJM (h:lastB ops L=true):∀(fuel:Nat) (qBa:Array Bool) (a:Go.Act) (w:World),qBa.size=ops.size→wpAny P .any ops (lastQ P L Q) fuel qBa a w→wpAny P .any (ops.push L) Q (fuel+1) (qBa.push false) a w:=by
 intro fuel
 induction fuel with
 |zero=>exact fun qBa a w hs hq=>qDm h hs hq.1 hq.2
 |succ fuel ih=>
  intro qBa a w hs hq
  cases hr:Region.ready .any ops qBa with
  |nil=>exact qDm h hs hr (hq.1 hr)
  |cons r rs=>
   have hnot:¬ops.size∈Region.ready .any (ops.push L) (qBa.push false):=fun hin=>by
    have hall:=(qDj h hs).1 hin;have hm:r∈Region.ready .any ops qBa:=by rw[hr];exact List.mem_cons_self ..
    have hrl:=qDr hm;rw[mem_ready] at hm;have:=hall r hrl;have hr':r<qBa.size:=by omega
    have h1:=hm.1;simp[hr'] at h1 this;rw[this] at h1
    cases h1
   have hsome:r∈Region.ready .any (ops.push L) (qBa.push false):=(qDH hs (qDr (by rw[hr];exact List.mem_cons_self ..))).2 (by rw[hr];exact List.mem_cons_self ..);refine⟨fun h0=>(by rw[h0] at hsome;cases hsome),fun i hi=> ?_⟩;have hil:=qDr hi;have hi2:i<ops.size:=by
    rcases Nat.lt_or_ge i ops.size with h1|h1
    · exact h1
    · have e:i=ops.size:=by simp at hil;omega
      subst e;exact absurd hi hnot
   have h1:=hq.2 i ((qDH hs hi2).1 hi);have ho:ops[i]? =some ops[i]:=Array.getElem?_eq_getElem hi2;have ho2:(ops.push L)[i]? =some ops[i]:=by rw[Array.getElem?_push,if_neg (by omega)];exact ho
   have hg:=(qIh h ho).1;unfold wpOp at h1⊢;simp only[ho] at h1;simp only[ho2];have hw1:Region.wanted ops[i] (yielded ops a.tmps)=true:=by simp[Region.wanted,hg]
   have hw2:Region.wanted ops[i] (yielded (ops.push L) a.tmps)=true:=by simp[Region.wanted,hg]
   rw[if_pos hw1] at h1;rw[if_pos hw2];refine h1.imp (fun h2=>Oper.wp_mono (fun a' w' h3=> ?_) (qLI h2)) fun h2=>⟨h2.1,qGM h2.2⟩;have e:(qBa.push false).setIfInBounds i true=(qBa.setIfInBounds i true).push false:=by
    apply Array.ext_getElem?
    intro j;simp only[Array.getElem?_setIfInBounds,Array.getElem?_push,Array.size_push,Array.size_setIfInBounds]
    by_cases e1:i=j
    · subst e1
      have:i≠qBa.size:=by omega
      have h4:i<qBa.size:=by omega
      simp[this,h4]
      omega
    · simp[e1]
   rw[e];exact ih _ _ _ (by simpa using hs) h3
def initO:Oper→List Oper→List Oper
 |_,[]=>[]
 |o,b::l=>o::initO b l
def lastO:Oper→List Oper→Oper
 |o,[]=>o
 |_,b::l=>lastO b l
end
structure Iv (ops:Array Oper) (qv:Nat→Value) (ad0:Nat→Nat) (n0 n:Nat) (pre:List Rc) (a0:Go.Act) (wS:World) (qBa:Array Bool) (a:Go.Act) (w:World) (ad:Nat→Nat):Prop where
 sz:qBa.size=ops.size
 ag:∀j,j<n0→ad j=ad0 j
 bw:Below wS.heap.size wS w
 fr:Fram ops n a0 a
 sl:∀(i:Nat) c o d,qBa.getD i false=true→pre[i]? =some c→ops[i]? =some o→o.dst=some d→a.tmps.getD d undef=vs qv ad c.r
 bk:∀(i:Nat) c (x T:Nat) (cs:List SL),qBa.getD i false=true→pre[i]? =some c→c.nw[x]? =some (some (T,cs))→wS.heap.size≤ad (c.k+x)∧∃cs',w.heap[ad (c.k+x)]? =some (.cells (cs'.map (lv qv ad)).toArray T (0,0))∧Fill pre (fun m=>qBa.getD m false=true) (c.k+x) cs cs'
 ij:∀(i m:Nat) c c' (x y:Nat) A B,qBa.getD i false=true→qBa.getD m false=true→pre[i]? =some c→pre[m]? =some c'→c.nw[x]? =some (some A)→c'.nw[y]? =some (some B)→ad (c.k+x)=ad (c'.k+y)→c.k+x=c'.k+y
 dp:∀(i:Nat) o,qBa.getD i false=true→ops[i]? =some o→∀k∈deps o,qBa.getD k false=true
 rf:∀(i:Nat) c j,qBa.getD i false=true→pre[i]? =some c→j∈c.rf→j<n0∨∃(m:Nat) (c':Rc),qBa.getD m false=true∧pre[m]? =some c'∧c'.k≤j∧j<c'.k+c'.nw.length
section
variable {P:Program} {qv:Nat→Value} {ad ad0:Nat→Nat} {M:Nat} {bl0 nws:List Bk} {w wS w0:World} {a a0:Go.Act} {orc:Op→List SV→Option SV} {call:Cal} {sl sl0:List SV} {pre:List Rc} {ops:Array Oper} {Q:Exit→Go.Act→World→Prop} {qBa:Array Bool}
theorem qN9 (h:Held M qv ad0 bl0 wS) (hb:Below wS.heap.size wS w) (ha:∀j,j<bl0.length→ad j=ad0 j) (k:Nat):Held M qv ad (bl0++List.replicate k none) w:=by
 have hs:∀(j:Nat) A,(bl0++List.replicate k none)[j]? =some (some A)→bl0[j]? =some (some A)∧j<bl0.length:=fun j A hj=>by
  rw[List.getElem?_append] at hj;split at hj
  · exact⟨hj,‹_›⟩
  · simp[List.getElem?_replicate] at hj
 refine⟨fun j T cs hj=> ?_,fun i j A B hi hj e=> ?_,fun j A hj=> ?_,fun j T cs hj x hx=> ?_⟩
 · obtain⟨h1,h2⟩:=hs j _ hj
   rw[ha j h2,hb.block _ (h.lt h1),h.here j T cs h1,qCy fun x hx=>(ha x (h.bd j T cs h1 x hx)).symm]
 · obtain⟨h1,h2⟩:=hs i _ hi
   obtain⟨h3,h4⟩:=hs j _ hj;exact h.inj i j A B h1 h3 (by rwa [ha i h2,ha j h4] at e)
 · obtain⟨h1,h2⟩:=hs j _ hj
   rw[ha j h2];exact h.lo j A h1
 · obtain⟨h1,h2⟩:=hs j _ hj
   have:=h.bd j T cs h1 x hx;simp;omega
theorem qKn (ht:a0.tmps=(sl0.map (vs qv ad0)).toArray) (t:Nat):a0.tmps.getD t undef=vs qv ad0 (slS sl0 t):=by
 rw[ht];simp only[slS,List.getD_eq_getElem?_getD,Array.getD_eq_getD_getElem?,List.getElem?_toArray,List.getElem?_map]
 cases sl0[t]? <;>rfl
theorem qMp (hs:∀v∈sl0,∀j∈v.refs,j<M) (t:Nat):∀j∈(slS sl0 t).refs,j<M:=fun j hj=>by
 unfold slS at hj;rw[List.getD_eq_getElem?_getD] at hj
 cases h:sl0[t]? with
 |none=>simp[h,SV.refs,SL.refs] at hj
 |some v=>exact hs v (qBQ h) j (by simpa[h] using hj)
theorem iv_tm (hI:Iv ops qv ad0 bl0.length sl0.length pre a0 wS qBa a w ad) (ht:a0.tmps=(sl0.map (vs qv ad0)).toArray) (hs:∀v∈sl0,∀j∈v.refs,j<bl0.length) {t:Nat} (hn:∀(k:Nat) q,ops[k]? =some q→q.dst≠some t):a.tmps.getD t undef=vs qv ad (slS sl0 t):=by
 rw[hI.fr.rest t hn,qKn ht t];exact qDo fun j hj=>(hI.ag j (qMp hs t j hj)).symm
theorem fill_rf {L:Nat→Prop} {i x T:Nat} {c:Rc} {cs cs':List SL} (hc:pre[i]? =some c) (hx:c.nw[x]? =some (some (T,cs))) (hL:L i) (h:Fill pre L j cs cs'):∃(m:Nat) (c':Rc),L m∧pre[m]? =some c'∧∀y∈refsL cs',y∈c'.rf:=by
 rcases h with⟨m,c',h1,h2,h3⟩|⟨rfl,-⟩
 · exact⟨m,c',h1,h2,fun y hy=>List.mem_append.2 (.inr (by rw[h3];exact hy))⟩
 · exact⟨i,c,hL,hc,fun y hy=>List.mem_append.2 (.inl (List.mem_append.2 (.inr (qEs hx hy))))⟩
theorem iv_step (hq:∀k,(qv k).oneCell'=true) (hc:CallOK P w0 qv call) (ho:OrcOK P w0 qv orc) (hG:Gd P orc call ops.toList bl0 sl0 sl nws pre) (hl:pre.length=ops.size) (hH:Held w0.heap.size qv ad0 bl0 wS) (hO:Below w0.heap.size w0 wS)
 (ht:a0.tmps=(sl0.map (vs qv ad0)).toArray) (hs:∀v∈sl0,∀j∈v.refs,j<bl0.length) {i:Nat} (hi:i∈Region.ready .any ops qBa) (hI:Iv ops qv ad0 bl0.length sl0.length pre a0 wS qBa a w ad):
 wpOp P ops Q i (fun a' w'=>∃ad',Iv ops qv ad0 bl0.length sl0.length pre a0 wS (qBa.setIfInBounds i true) a' w' ad') a w:=by
 obtain⟨hno,o,hoi,hdep⟩:=mem_ready.1 hi;have hil:=(Array.getElem?_eq_some_iff.1 hoi).1;obtain⟨c,hci⟩:∃c,pre[i]? =some c:=⟨pre[i]'(by omega),List.getElem?_eq_getElem _⟩;obtain⟨o',g⟩:=hG.op i c hci;have e:o'=o:=by have:=g.ho;rw[Array.getElem?_toList,hoi] at this;injection this with this;exact this.symm
 subst e;have hkk:=hG.kk i c hci;have hlen:(bl0++List.replicate (c.k-bl0.length) none).length=c.k:=by simp;omega
 have hdl:∀k∈deps o',qBa.getD k false=true:=fun k hk=>by
  obtain⟨e,he,rfl⟩:=List.mem_map.1 hk;obtain⟨h1,h2⟩:=List.mem_filter.1 he;exact hdep e (Array.mem_toList_iff.1 h1) h2
 have hA:Agr qv ad (slS c.sl) a o'.op:=fun x hx v hv=>qFl (fun t e=>by
  subst e
  by_cases hw:∃(k:Nat) (q:Oper),ops[k]? =some q∧q.dst=some t
  · obtain⟨k,q,hk,hqd⟩:=hw
    have hkd:=g.tm t (by simp only[opTm,List.mem_filterMap];exact⟨.tmp t,by simpa using hx,rfl⟩) k q (by simpa using hk) hqd;have hki:=g.dp k hkd;obtain⟨c',hc'⟩:∃c',pre[k]? =some c':=⟨pre[k]'(by omega),List.getElem?_eq_getElem _⟩;rw[hI.sl k c' q t (hdl k hkd) hc' hk hqd,g.st.2 k q c' t hki (by simpa using hk) hqd hc']
  · rw[iv_tm hI ht hs fun k q hk hqd=>hw ⟨k,q,hk,hqd⟩,g.st.1 t fun k q _ hk hqd=>hw ⟨k,q,by simpa using hk,hqd⟩]) hv
 have hw:Region.wanted o' (yielded ops a.tmps)=true:=by simp[Region.wanted,g.hg]
 have hnl:∀m,qBa.getD m false=true→m≠i:=fun m hm e=>by
  subst e;have:m<qBa.size:=by rw[hI.sz];exact hil
  simp[this] at hno hm;rw[hno] at hm;cases hm
 have hget:∀m,(qBa.setIfInBounds i true).getD m false=true→m=i∨qBa.getD m false=true:=fun m hm=>by
  by_cases e:m=i
  · exact .inl e
  · rw[getD_set_ne false (Ne.symm e)] at hm;exact .inr hm
 have hset:∀m,qBa.getD m false=true→(qBa.setIfInBounds i true).getD m false=true:=fun m hm=>by
  rw[getD_set_ne false (Ne.symm (hnl m hm))];exact hm
 have hseti:(qBa.setIfInBounds i true).getD i false=true:=by
  have:i<qBa.size:=by rw[hI.sz];exact hil
  simp[this]
 have hdp:∀(m:Nat) q,(qBa.setIfInBounds i true).getD m false=true→ops[m]? =some q→∀k∈deps q,(qBa.setIfInBounds i true).getD k false=true:=fun m q hm hq k hk=>hset k (by
  rcases hget m hm with rfl|hm
  · rw[hoi] at hq;injection hq with hq;subst hq;exact hdl k hk
  · exact hI.dp m q hm hq k hk)
 have hrfl:∀(m:Nat) c' j,(qBa.setIfInBounds i true).getD m false=true→pre[m]? =some c'→j∈c'.rf→j<bl0.length∨∃(m:Nat) (c':Rc),(qBa.setIfInBounds i true).getD m false=true∧pre[m]? =some c'∧c'.k≤j∧j<c'.k+c'.nw.length:=fun m c' j hm hc' hj=>by
  have up:(j<bl0.length∨∃(m:Nat) (c':Rc),qBa.getD m false=true∧pre[m]? =some c'∧c'.k≤j∧j<c'.k+c'.nw.length)→j<bl0.length∨∃(m:Nat) (c':Rc),(qBa.setIfInBounds i true).getD m false=true∧pre[m]? =some c'∧c'.k≤j∧j<c'.k+c'.nw.length:=fun h=>h.imp id fun⟨m,c',h1,h2⟩=>⟨m,c',hset m h1,h2⟩;rcases hget m hm with rfl|hm
  · rw[hci] at hc';injection hc' with hc';subst hc'
    rcases g.rf j hj with h|⟨h1,h2⟩|⟨h,m',hm',c',hc',h'⟩
    · exact .inl h
    · exact .inr ⟨m,c,hseti,hci,h1,h2⟩
    · exact up (hI.rf m' c' j (hdl m' hm') hc' h')
  · exact up (hI.rf m c' j hm hc' hj)
 unfold wpOp;simp only[hoi];rw[if_pos hw];rcases g.how with⟨d,gv⟩|⟨T,x,v,b,T',cs,u,gs⟩
 · refine .inl (Oper.wp_mono (fun a' w' q=> ?_) (ex_ok hq hc ho (qN9 hH hI.bw hI.ag (c.k-bl0.length)) (hO.trans (hI.bw.mono hO.size)) hA gv.ex))
   obtain⟨ad',hp,rfl⟩:=q;have hag:=hp.ag;have hnew:=hp.new;have hinj:=hp.inj;rw[hlen] at hag hnew hinj;refine⟨fun j=>if c.k≤j∧j<c.k+c.nw.length then ad' j else ad j,?_⟩;generalize hA2:(fun j=>if c.k≤j∧j<c.k+c.nw.length then ad' j else ad j)=ad2;have hin:∀j,c.k≤j→j<c.k+c.nw.length→ad2 j=ad' j:=fun j h1 h2=>by rw[←hA2];exact if_pos ⟨h1,h2⟩
   have hout:∀j,¬(c.k≤j∧j<c.k+c.nw.length)→ad2 j=ad j:=fun j h=>by rw[←hA2];exact if_neg h
   have hdis:∀(m:Nat) c' y,qBa.getD m false=true→pre[m]? =some c'→c'.k≤y→y<c'.k+c'.nw.length→ad2 y=ad y:=fun m c' y hm hc' h1 h2=>hout y fun h=>by
    rcases Nat.lt_or_gt_of_ne (hnl m hm) with h3|h3
    · have:=hG.ord m i c' c h3 hc' hci;omega
    · have:=hG.ord i m c c' h3 hci hc';omega
   have hrf:∀(m:Nat) c' j,qBa.getD m false=true→pre[m]? =some c'→j∈c'.rf→ad2 j=ad j:=fun m c' j hm hc' hj=>by
    rcases hI.rf m c' j hm hc' hj with h|⟨m',c'',h1,h2,h3,h4⟩
    · exact hout j fun h'=>by omega
    · exact hdis m' c'' j h1 h2 h3 h4
   have hr:∀j∈c.rf,ad' j=ad2 j:=fun j hj=>by
    rcases g.rf j hj with h|⟨h1,h2⟩|⟨h,-⟩
    · rw[hag j (by omega),hout j fun h'=>by omega]
    · exact(hin j h1 h2).symm
    · rw[hag j h,hout j fun h'=>by omega]
   have hput:∀t,(a.put o'.dst (vs qv ad' c.r)).tmps.getD t undef=if t=d then vs qv ad' c.r else a.tmps.getD t undef:=fun t=>by
    rw[gv.hd]
    show(a.tmps.setIfInBounds d _).getD t undef=_
    split
    · rename_i e;subst e;simp[hI.fr.size,gv.dl]
    · rename_i e;simp[Array.getD_eq_getD_getElem?,Ne.symm e]
   refine⟨by simpa using hI.sz,fun j hj=>by rw[hout j fun h'=>by omega];exact hI.ag j hj,hI.bw.trans (hp.bw.mono hI.bw.size),⟨by rw[gv.hd];show(a.tmps.setIfInBounds d _).size=_;simp[hI.fr.size],by rw[gv.hd];exact hI.fr.defers,fun t h=> ?_⟩,fun m c' q d' hm hc' hq hqd=> ?_,fun m c' x T cs hm hc' hx=> ?_,fun m m' c1 c2 x y A B hm hm' hc1 hc2 hx hy e=> ?_,hdp,hrfl⟩
   · rw[hput,if_neg fun e=>h i o' hoi (by rw[gv.hd,e])]
     exact hI.fr.rest t h
   · rw[hput]
     rcases hget m hm with rfl|hm
     · rw[hci] at hc';injection hc' with hc';subst hc'
       rw[hoi] at hq;injection hq with hq;subst hq
       rw[gv.hd] at hqd;injection hqd with hqd
       rw[if_pos hqd.symm];exact qDo fun j hj=>hr j (List.mem_append.2 (.inl (List.mem_append.2 (.inl hj))))
     · rw[if_neg fun e=>gv.ds m q (by simpa using hq) (hnl m hm) (by rw[hqd,e]),hI.sl m c' q d' hm hc' hq hqd]
       exact qDo fun j hj=>(hrf m c' j hm hc' (List.mem_append.2 (.inl (List.mem_append.2 (.inl hj))))).symm
   · have hxl:x<c'.nw.length:=(qBM.1 hx).1
     rcases hget m hm with rfl|hm
     · rw[hci] at hc';injection hc' with hc';subst hc'
       obtain⟨h1,h2⟩:=hnew x T cs hx;rw[hin _ (by omega) (by omega)];refine⟨qBZ hI.bw.size h1,cs,?_,.inr ⟨rfl,fun m' c2 z hm' hc2 h=> ?_⟩⟩
       · rw[h2,qCy fun j hj=>hr j (List.mem_append.2 (.inl (List.mem_append.2 (.inr (qEs hx hj)))))]
       · rcases hget m' hm' with rfl|hm'
         · rw[hci] at hc2;injection hc2 with hc2;subst hc2
           rw[gv.ht] at h;cases h
         · obtain⟨o2,g2⟩:=hG.op m' c2 hc2
           rcases g2.how with⟨d2,gv2⟩|⟨_,_,_,b2,_,_,_,gs2⟩
           · rw[gv2.ht] at h;cases h
           · rw[gs2.ht] at h;injection h with h;injection h with h _;subst h
             obtain⟨k,hk,c3,hc3,h4,h5⟩:=gs2.by_;have h6:=(qBM.1 h5).1;have hkm:k=m:=by
              rcases Nat.lt_trichotomy k m with q|q|q
              · have:=hG.ord k m c3 c q hc3 hci;omega
              · exact q
              · have:=hG.ord m k c c3 q hci hc3;omega
             exact hnl k (hI.dp m' o2 hm' (by simpa using g2.ho) k hk) hkm
     · obtain⟨h1,cs',h2,h3⟩:=hI.bk m c' x T cs hm hc' hx
       obtain⟨m2,c2,k1,k2,k3⟩:=fill_rf (L:=fun m=>qBa.getD m false=true) hc' hx hm h3;rw[hdis m c' _ hm hc' (by omega) (by omega)];refine⟨h1,cs',?_,?_⟩
       · rw[hp.bw.block _ (Array.getElem?_eq_some_iff.1 h2).1,h2,qCy fun j hj=>(hrf m2 c2 j k1 k2 (k3 j hj)).symm]
       · rcases h3 with⟨m3,c3,l1,l2,l3⟩|⟨l1,l2⟩
         · exact .inl ⟨m3,c3,hset m3 l1,l2,l3⟩
         · refine .inr ⟨l1,fun m3 c3 z hm3 hc3 h=> ?_⟩
           rcases hget m3 hm3 with rfl|hm3
           · rw[hci] at hc3;injection hc3 with hc3;subst hc3
             rw[gv.ht] at h;cases h
           · exact l2 m3 c3 z hm3 hc3 h
   · have hxl:x<c1.nw.length:=(qBM.1 hx).1
     have hyl:y<c2.nw.length:=(qBM.1 hy).1;rcases hget m hm with e1|ho1<;>rcases hget m' hm' with e2|ho2
     · rw[e1,hci] at hc1;rw[e2,hci] at hc2;injection hc1 with hc1;injection hc2 with hc2;subst hc1;subst hc2
       rw[hin _ (by omega) (by omega),hin _ (by omega) (by omega)] at e;rw[hinj x y A B hx hy e]
     · rw[e1,hci] at hc1;injection hc1 with hc1;subst hc1
       rw[hin _ (by omega) (by omega),hdis m' c2 _ ho2 hc2 (by omega) (by omega)] at e;have h1:=(hnew x A.1 A.2 hx).1;obtain⟨-,_,h2,-⟩:=hI.bk m' c2 y B.1 B.2 ho2 hc2 hy;have h2:=(Array.getElem?_eq_some_iff.1 h2).1
       omega
     · rw[e2,hci] at hc2;injection hc2 with hc2;subst hc2
       rw[hin _ (Nat.le_add_right c.k y) (by omega),hdis m c1 _ ho1 hc1 (by omega) (by omega)] at e;have h1:=(hnew y B.1 B.2 hy).1;obtain⟨-,_,h2,-⟩:=hI.bk m c1 x A.1 A.2 ho1 hc1 hx;have h2:=(Array.getElem?_eq_some_iff.1 h2).1
       omega
     · rw[hdis m c1 _ ho1 hc1 (by omega) (by omega),hdis m' c2 _ ho2 hc2 (by omega) (by omega)] at e
       exact hI.ij m m' c1 c2 x y A B ho1 ho2 hc1 hc2 hx hy e
 · obtain⟨m2,hm2,c2,hc2,hb1,hb2⟩:=gs.by_
   have hl2:=hdl m2 hm2;have hbk:c2.k+(b-c2.k)=b:=by omega
   obtain⟨hlo,cs',hg,hf⟩:=hI.bk m2 c2 (b-c2.k) T' cs hl2 hc2 hb2;rw[hbk] at hlo hg hf;have ecs:cs'=cs:=by
    rcases hf with⟨m,c',h1,h2,h3⟩|⟨h,-⟩
    · exact absurd (hG.un m i c' c b _ _ h2 hci h3 gs.ht) (hnl m h1)
    · exact h
   subst ecs;have e1:a.eval x= .pointer (some ⟨ad b,0,none⟩):=hA x (by rw[gs.op];simp[Op.operands]) _ gs.hx;have e2:=hA v (by rw[gs.op];simp[Op.operands]) _ gs.hv;have hst:=run_storeCells_at P (ad b) 0 T' (u.cells.map (lv qv ad)) 0 _ w hg (by simp[gs.ln]) (u_one hq gs.nu);have hrow:(List.take (0+0) (cs'.map (lv qv ad)).toArray.toList++u.cells.map (lv qv ad)++List.drop (0+0+(u.cells.map (lv qv ad)).length) (cs'.map (lv qv ad)).toArray.toList).toArray=(u.cells.map (lv qv ad)).toArray:=by
    simp[gs.ln]
   rw[hrow] at hst;have hsz:(u.cells.map (lv qv ad)).toArray.size=cs'.length:=by simp[gs.ln]
   left
   unfold Oper.wp execOp;rw[gs.op];simp only[e1,e2,Instr.storeAt,Instr.sureAddr,storeVar,Sem.run_bind,Sem.run_pure,Result.andThen_ok,qEh (ad:=ad) hq u,qEL gs.sz,hsz,ne_eq,not_true_eq_false,if_false,hst];simp only[gs.hd,Oper.upon,Act.put];refine⟨ad,by simpa using hI.sz,hI.ag,Below.setRow hI.bw hlo,hI.fr,fun m c' q d' hm hc' hq' hqd=> ?_,fun m c' y T2 cs2 hm hc' hy=> ?_,fun m m' c1 c3 y z A B hm hm' hc1 hc3 hy hz e=> ?_,hdp,hrfl⟩
   · rcases hget m hm with rfl|hm
     · rw[hoi] at hq';injection hq' with hq';subst hq'
       rw[gs.hd] at hqd;cases hqd
     · exact hI.sl m c' q d' hm hc' hq' hqd
   · rcases hget m hm with rfl|hm
     · rw[hci] at hc';injection hc' with hc';subst hc'
       rw[gs.nw] at hy;simp at hy
     · obtain⟨h1,cs3,h2,h3⟩:=hI.bk m c' y T2 cs2 hm hc' hy
       have hyl:=(qBM.1 hy).1;have hbl:=(qBM.1 hb2).1;refine⟨h1,?_⟩
       by_cases e:c'.k+y=b
       · have hmm:m=m2:=by
          rcases Nat.lt_trichotomy m m2 with q|q|q
          · have:=hG.ord m m2 c' c2 q hc' hc2;omega
          · exact q
          · have:=hG.ord m2 m c2 c' q hc2 hc';omega
         subst hmm;rw[hc2] at hc';injection hc' with hc';subst hc'
         have:y=b-c2.k:=by omega
         subst this;rw[hb2] at hy;injection hy with hy;injection hy with hy;injection hy with hy1 hy2
         subst hy1;subst hy2;rw[e];exact⟨u.cells,setRow_heap w _ _ _ _ _ hg,.inl ⟨i,c,hseti,hci,gs.ht⟩⟩
       · refine⟨cs3,?_,?_⟩
         · rw[qFf fun q=>e (by have:=hI.ij m m2 c' c2 y (b-c2.k) _ _ hm hl2 hc' hc2 hy hb2 (by rw[hbk];exact q);omega)]
           exact h2
         · rcases h3 with⟨m3,c3,l1,l2,l3⟩|⟨l1,l2⟩
           · exact .inl ⟨m3,c3,hset m3 l1,l2,l3⟩
           · refine .inr ⟨l1,fun m3 c3 z hm3 hc3 h=> ?_⟩
             rcases hget m3 hm3 with rfl|hm3
             · rw[hci] at hc3;injection hc3 with hc3;subst hc3
               rw[gs.ht] at h;injection h with h;injection h with h _;exact e h.symm
             · exact l2 m3 c3 z hm3 hc3 h
   · rcases hget m hm with q|hm
     · subst q
       rw[hci] at hc1;injection hc1 with hc1;subst hc1
       rw[gs.nw] at hy;simp at hy
     · rcases hget m' hm' with q|hm'
       · subst q
         rw[hci] at hc3;injection hc3 with hc3;subst hc3
         rw[gs.nw] at hz;simp at hz
       · exact hI.ij m m' c1 c3 y z A B hm hm' hc1 hc3 hy hz e
theorem exD_ok (hq:∀k,(qv k).oneCell'=true) (hc:CallOK P w0 qv call) (ho:OrcOK P w0 qv orc) (hG:Gd P orc call ops.toList bl0 sl0 sl nws pre) (hl:pre.length=ops.size) (hH:Held w0.heap.size qv ad0 bl0 wS) (hO:Below w0.heap.size w0 wS)
 (ht:a0.tmps=(sl0.map (vs qv ad0)).toArray) (hs:∀v∈sl0,∀j∈v.refs,j<bl0.length)
 (hend:∀ad a w,Post qv ad0 bl0 nws wS w ad→a.tmps=(sl.map (vs qv ad)).toArray→a.defers=a0.defers→Q .normal a w):wpAny P .any ops Q ops.size (Array.replicate ops.size false) a0 wS:=by
 have hno:∀i,(Array.replicate ops.size false).getD i false=true→False:=fun i h=>by
  simp only[Array.getD_eq_getD_getElem?,Array.getElem?_replicate] at h;split at h<;>simp at h
 refine qGT (fun qBa a w=>∃ad,Iv ops qv ad0 bl0.length sl0.length pre a0 wS qBa a w ad) (fun qBa a w i h hi=> ?_) (fun qBa a w h hr=> ?_) _ _ _ _ ⟨ad0,?_⟩ (by simp)
 · obtain⟨ad,hI⟩:=h
   exact iv_step hq hc ho hG hl hH hO ht hs hi hI
 · obtain⟨ad,hI⟩:=h
   have hall:∀i,i<ops.size→qBa.getD i false=true:=by
    intro i
    induction i using Nat.strongRecOn with
    |ind i ih=>
     intro hi
     cases hli:qBa.getD i false with
     |true=>rfl
     |false=>
      exfalso;obtain⟨c,hci⟩:∃c,pre[i]? =some c:=⟨pre[i]'(by omega),List.getElem?_eq_getElem _⟩;obtain⟨o,g⟩:=hG.op i c hci;have hm:i∈Region.ready .any ops qBa:=by
       rw[mem_ready];refine⟨?_,o,by simpa using g.ho,fun e he hb=> ?_⟩
       · have:i<qBa.size:=by rw[hI.sz];exact hi
         simp[this] at hli⊢;exact hli
       · have:=g.dp e.on (List.mem_map.2 ⟨e,List.mem_filter.2 ⟨Array.mem_toList_iff.2 he,hb⟩,rfl⟩)
         exact ih _ this (by omega)
      rw[hr] at hm
      cases hm
   have hL:∀(i:Nat) c,pre[i]? =some c→qBa.getD i false=true:=fun i c hc=>hall i (by have:=qEO hc;omega);have hat:∀(j:Nat) A,nws[j]? =some (some A)→∃(i:Nat) (c:Rc) (x:Nat) (cs:List SL),pre[i]? =some c∧c.nw[x]? =some (some (A.1,cs))∧c.k+x=bl0.length+j∧Fill pre (fun _=>True) (bl0.length+j) cs A.2:=hG.nw;refine hend ad a w ⟨hI.ag,hI.bw,fun j T cs hj=> ?_,fun i j A B hi hj e=> ?_⟩ ?_ hI.fr.defers
   · obtain⟨i,c,x,cs1,h1,h2,h3,h4⟩:=hat j _ hj
     obtain⟨k1,cs2,k2,k3⟩:=hI.bk i c x T cs1 (hL i c h1) h1 h2;rw[h3] at k1 k2 k3;refine⟨k1,?_⟩;have e:cs2=cs:=by
      rcases k3 with⟨m,c2,l1,l2,l3⟩|⟨l1,l2⟩<;>rcases h4 with⟨m',c3,-,l4,l5⟩|⟨l4,l5⟩
      · have:=hG.un m m' c2 c3 _ _ _ l2 l4 l3 l5
        subst this;rw[l2] at l4;injection l4 with l4;subst l4
        rw[l3] at l5;injection l5 with l5;injection l5
      · exact absurd l3 (l5 m c2 _ trivial l2)
      · exact absurd l5 (l2 m' c3 _ (hL m' c3 l4) l4)
      · exact l1.trans l4.symm
     rw[k2,e]
   · obtain⟨i1,c1,x1,_,h1,h2,h3,-⟩:=hat i _ hi
     obtain⟨i2,c2,x2,_,h4,h5,h6,-⟩:=hat j _ hj;have:=hI.ij i1 i2 c1 c2 x1 x2 _ _ (hL i1 c1 h1) (hL i2 c2 h4) h1 h4 h2 h5 (by rw[h3,h6];exact e)
     omega
   · apply Array.ext
     · simp[hI.fr.size,hG.ln]
     · intro t h1 h2
       have hv:a.tmps[t]=a.tmps.getD t undef:=by simp[h1]
       have ht2:t<sl.length:=by simpa using h2
       have hv2:(sl.map (vs qv ad)).toArray[t]=vs qv ad (slS sl t):=by simp[slS,ht2]
       rw[hv,hv2]
       by_cases hw:∃(k:Nat) (q:Oper),ops[k]? =some q∧q.dst=some t
       · obtain⟨k,q,hk,hqd⟩:=hw
         have hkl:=(Array.getElem?_eq_some_iff.1 hk).1;obtain⟨c,hc⟩:∃c,pre[k]? =some c:=⟨pre[k]'(by omega),List.getElem?_eq_getElem _⟩;rw[hI.sl k c q t (hL k c hc) hc hk hqd,hG.st.2 k q c t (qEO hc) (by simpa using hk) hqd hc]
       · rw[iv_tm hI ht hs fun k q hk hqd=>hw ⟨k,q,hk,hqd⟩,hG.st.1 t fun k q _ hk hqd=>hw ⟨k,q,by simpa using hk,hqd⟩]
 · exact⟨by simp,fun _ _=>rfl,qBO _ _,⟨by rw[ht];simp,rfl,fun t _=>rfl⟩,fun i c o d h=>(hno i h).elim,fun i c x T cs h=>(hno i h).elim,fun i m c c' x y A B h=>(hno i h).elim,fun i o h=>(hno i h).elim,fun i c j h=>(hno i h).elim⟩
end
def fullB (σ:Sxs) (sl:List SV) (nws:List Bk):Option Sxs:=if (sl.all fun v=>v.refs.all (·<σ.bl.length+nws.length))∧(refsB nws).all (·<σ.bl.length+nws.length) then some ⟨sl,σ.bl++nws⟩ else none
def exR (P:Program) (orc:Op→List SV→Option SV) (call:Cal) (lo:Nat) (draw:Bool) (ops:Array Oper) (σ:Sxs):Option Sxs:=
 if draw=false then exS P orc call lo ops.toList σ else match ops.back? with
  |none=>none
  |some L=>match L.op with
   | .store T x v=>if L.dst.isNone∧lastB ops.pop L=true then (exD P orc call ops.pop.toList σ.bl ops.pop.toList σ.sl [] []).bind fun F=>(fullB σ F.1 F.2.1).bind fun τ=>(exSt P lo (slS τ.sl) τ.bl T x v).map fun bl=>⟨τ.sl,bl⟩ else (exD P orc call ops.toList σ.bl ops.toList σ.sl [] []).bind fun F=>fullB σ F.1 F.2.1
   |_=>(exD P orc call ops.toList σ.bl ops.toList σ.sl [] []).bind fun F=>fullB σ F.1 F.2.1
inductive Ev where
 |n|r|x (id:Nat)
def Ev.exit:Ev→Exit
 | .n=> .normal| .r=> .ret| .x id=> .exit id
def evC (P:Program) (orc:Op→List SV→Option SV) (call:Cal) (lo:Nat):Code→Sxs→Option (Ev×Sxs)
 | .skip,σ| .label _,σ=>some (.n,σ)
 | .ret,σ=>some (.r,σ)
 | .exit id,σ=>some (.x id,σ)
 | .region _ ops draw,σ=>(exR P orc call lo draw ops σ).map fun τ=>(.n,τ)
 | .seq c d,σ=>match evC P orc call lo c σ with
   |some (.n,τ)=>evC P orc call lo d τ
   |R=>R
 | .cond c t e,σ=>match opv (slS σ.sl) c with
   |some (.c (.y b))=>if b then evC P orc call lo t σ else evC P orc call lo e σ
   |_=>none
 | .block id c,σ=>match evC P orc call lo c σ with
   |some (.x j,τ)=>some (if j=id then .n else .x j,τ)
   |R=>R
 |_,_=>none
def resS (P:Program) (σ:Sxs):List ResultVar→Option SV
 |[.tmp t]=>some (slS σ.sl t)
 |[.cell t T]=>match ex0 P (slS σ.sl) σ.bl (.load T (.tmp t)) with
  |some (.val r)=>some r
  |_=>none
 |_=>none
def evB (P:Program) (fnT:Nat→Option Func) (orc:Op→List SV→Option SV) (call:Cal):Cal:=fun f l bl=>(fnT f).bind fun fn=>fn.body.bind fun c=>match evC P orc call bl.length c ⟨l++List.replicate (fn.ntmps-l.length) (.c .u),bl⟩ with
 |some (.x _,_)|none=>none
 |some (_,σ)=>(resS P σ fn.results.toList).map fun r=>(r,σ.bl.drop bl.length)
def evF (P:Program) (fnT:Nat→Option Func) (orc:Op→List SV→Option SV) (spec:Nat→List SV→Option SV):Nat→Cal
 |0=>fun f l _=>(spec f l).map fun r=>(r,[])
 |n+1=>fun f l bl=>match spec f l with
  |some r=>some (r,[])
  |none=>evB P fnT orc (evF P fnT orc spec n) f l bl
def FnOK (P:Program) (fnT:Nat→Option Func):Prop:=∀f fn,fnT f=some fn→P.funcs[f]? =some fn∧(fn.name=="runtime.NumGoroutine")=false
def SpOK (P:Program) (w0:World) (qv:Nat→Value) (spec:Nat→List SV→Option SV):Prop:=∀f l r,spec f l=some r→Callee P f∧∀ad w,Below w0.heap.size w0 w→Calls P f (l.map (vs qv ad)).toArray w fun e w'=>e= .returned (vs qv ad r)∧Below w.heap.size w w'
section
variable {P:Program} {qv:Nat→Value} {ad ade:Nat→Nat} {lo:Nat} {w we w0:World} {a:Go.Act} {orc:Op→List SV→Option SV} {call:Cal} {σ σ':Sxs} {fnT:Nat→Option Func} {spec:Nat→List SV→Option SV}
theorem rl_drew (h:Rl w0 we qv ade lo ad σ a w):Rl w0 we qv ade lo ad σ a {w with drawn:=w.drawn+1}:=
 ⟨h.tm,h.df,⟨h.hd.here,h.hd.inj,h.hd.lo,h.hd.bd⟩,h.old.drew,h.bw.drew,h.own,h.ag,h.le,h.sb⟩
theorem exR_ok {id:Nat} {draw:Bool} {ops:Array Oper} {Q:Exit→Go.Act→World→Prop} (hm:P.follows .mixedOrders=true) (hq:∀k,(qv k).oneCell'=true) (hc:CallOK P w0 qv call) (ho:OrcOK P w0 qv orc) (h:exR P orc call lo draw ops σ=some σ') (hR:Rl w0 we qv ade lo ad σ a w) (hQ:∀ad' a' w',Rl w0 we qv ade lo ad' σ' a' w'→Q .normal a' w'):(Code.region id ops draw).wp P Q a w:=by
 have front:∀{os:Array Oper} {F τ Q'},exD P orc call os.toList σ.bl os.toList σ.sl [] []=some F→fullB σ F.1 F.2.1=some τ→(∀ad' a' w',Rl w0 we qv ade lo ad' τ a' w'→Q' .normal a' w')→wpAny P .any os Q' os.size (Array.replicate os.size false) a {w with drawn:=w.drawn+1}:=fun {os F τ Q'} hF hf hQ'=>by
  obtain⟨hG,hl⟩:=qOT (sl0:=σ.sl) os.toList σ.sl [] [] hF (fun j=>by simp) gd_nil;have hR':=rl_drew hR;unfold fullB at hf;split at hf
  · rename_i hb
    injection hf with hf;subst hf;simp only[List.all_eq_true,decide_eq_true_eq] at hb;exact exD_ok hq hc ho hG (by rw[hl];simp) hR'.hd hR'.old hR'.tm hR'.sb fun ad' a' w' hp h1 h2=>hQ' ad' a' w' (qKq hR' hp hb.2 h1 (h2.trans hR'.df) hb.1)
  · cases hf
 unfold exR at h;split at h
 · rename_i hd
   subst hd;exact wp_region_list (qKL hq hc ho _ σ ad a w h hR hQ)
 · rename_i hd
   have hd':draw=true:=by simpa using hd
   subst hd';refine wp_region_any hm ?_;split at h
   · cases h
   · rename_i L hL
     have hops:ops=ops.pop.push L:=by
      have hne:ops.size≠0:=fun h0=>by simp[Array.back?,h0] at hL
      apply Array.ext_getElem?
      intro i;rw[Array.getElem?_push];simp only[Array.size_pop,Array.getElem?_pop];rw[Array.back?] at hL;split
      · rename_i e;rw[e];exact hL
      · split
        · rfl
        · exact Array.getElem?_eq_none (by omega)
     split at h
     · rename_i T x v hop
       split at h
       · rename_i hl
         simp only[Option.bind_eq_some_iff,Option.map_eq_some_iff] at h;obtain⟨F,hF,τ,hτ,bl,hbl,rfl⟩:=h;have:=qJM (Q:=Q) (P:=P) hl.2 _ (Array.replicate ops.pop.size false) _ _ (by simp) (front hF hτ fun ad' a' w' hr=>qH5 (Q:=Q) hq hr hop (by simpa using hl.1) hbl (fun a'' w''=>Q .normal a'' w'') fun w'' hr'=>hQ _ _ _ hr');have e:(Array.replicate ops.pop.size false).push false=Array.replicate ops.size false:=by
          have h1:ops.size=ops.pop.size+1:=by conv=>lhs;rw[hops]
                                              simp
          rw[h1,Array.replicate_succ]
         have h1:ops.size=ops.pop.size+1:=by conv=>lhs;rw[hops]
                                             simp
         rw[e,←hops,←h1] at this;exact this
       · simp only[Option.bind_eq_some_iff] at h
         obtain⟨F,hF,hτ⟩:=h;exact front hF hτ hQ
     · simp only[Option.bind_eq_some_iff] at h
       obtain⟨F,hF,hτ⟩:=h;exact front hF hτ hQ
theorem evC_ok (hm:P.follows .mixedOrders=true) (hq:∀k,(qv k).oneCell'=true) (hc:CallOK P w0 qv call) (ho:OrcOK P w0 qv orc):∀(c:Code) (σ:Sxs) (e:Ev) (σ':Sxs) (ad:Nat→Nat) (a:Go.Act) (w:World) (Q:Exit→Go.Act→World→Prop),evC P orc call lo c σ=some (e,σ')→Rl w0 we qv ade lo ad σ a w→(∀ad' a' w',Rl w0 we qv ade lo ad' σ' a' w'→Q e.exit a' w')→c.wp P Q a w:=by
 intro c
 induction c with
 |skip=>intro σ e σ' ad a w Q h hR hQ;simp[evC] at h;obtain⟨rfl,rfl⟩:=h;exact wp_skip (hQ _ _ _ hR)
 |label l=>intro σ e σ' ad a w Q h hR hQ;simp[evC] at h;obtain⟨rfl,rfl⟩:=h;exact wp_label (hQ _ _ _ hR)
 |ret=>intro σ e σ' ad a w Q h hR hQ;simp[evC] at h;obtain⟨rfl,rfl⟩:=h;exact wp_ret (hQ _ _ _ hR)
 |exit id=>intro σ e σ' ad a w Q h hR hQ;simp[evC] at h;obtain⟨rfl,rfl⟩:=h;exact wp_exit (hQ _ _ _ hR)
 |region id ops draw=>
  intro σ e σ' ad a w Q h hR hQ;simp only[evC,Option.map_eq_some_iff,Prod.mk.injEq] at h;obtain⟨τ,hτ,rfl,rfl⟩:=h;exact exR_ok hm hq hc ho hτ hR hQ
 |seq c d ihc ihd=>
  intro σ e σ' ad a w Q h hR hQ;simp only[evC] at h;refine wp_seq ?_;split at h
  · rename_i τ hτ
    exact ihc σ .n τ ad a w _ hτ hR fun ad' a' w' hR'=>ihd τ e σ' ad' a' w' Q h hR' hQ
  · rename_i R hne
    refine ihc σ e σ' ad a w _ h hR fun ad' a' w' hR'=> ?_;have:=hQ ad' a' w' hR'
    cases e with
    |n=>exact absurd h (hne σ')
    |r=>exact this
    |x id=>exact this
 |cond c t e iht ihe=>
  intro σ ev σ' ad a w Q h hR hQ;simp only[evC] at h;split at h
  · rename_i b hb
    have hv:a.eval c= .bool b:=qFl (ρ:=slS σ.sl) (qv:=qv) (ad:=ad) (fun t _=>qKn hR.tm t) hb;refine wp_cond hv ?_
    cases b with
    |true=>exact iht σ ev σ' ad a w Q h hR hQ
    |false=>exact ihe σ ev σ' ad a w Q h hR hQ
  · cases h
 |block id c ih=>
  intro σ e σ' ad a w Q h hR hQ;simp only[evC] at h;refine wp_block ?_;split at h
  · rename_i j τ hτ
    simp only[Option.some.injEq,Prod.mk.injEq] at h;obtain⟨rfl,rfl⟩:=h;refine ih σ (.x j) τ ad a w _ hτ hR fun ad' a' w' hR'=> ?_;have:=hQ ad' a' w' hR'
    show(if j=id then Q .normal a' w' else Q (.exit j) a' w')
    split
    · rename_i hj;rw[if_pos hj] at this;exact this
    · rename_i hj;rw[if_neg hj] at this;exact this
  · rename_i R hne
    refine ih σ e σ' ad a w _ h hR fun ad' a' w' hR'=> ?_;have:=hQ ad' a' w' hR'
    cases e with
    |n=>exact this
    |r=>exact this
    |x j=>exact absurd h (hne j σ')
 |_=>intro σ e σ' ad a w Q h hR hQ;simp[evC] at h
theorem res_run {fn:Func} {r:SV} (hR:Rl w0 we qv ade lo ad σ a w) (hq:∀k,(qv k).oneCell'=true) (h:resS P σ fn.results.toList=some r):(results fn a.tmps).run P w= .ok (vs qv ad r) w:=by
 have key:∀l,fn.results=l.toArray→resS P σ l=some r→(results fn a.tmps).run P w= .ok (vs qv ad r) w:=fun l hl h=>by
  unfold resS at h;split at h
  · rename_i t
    injection h with h;subst h;have:=qKn hR.tm t;simp[results,hl,←this]
  · rename_i t T
    split at h
    · rename_i r' hr
      injection h with h;subst h;rcases qHe (o:=⟨none,.load T (.tmp t),T,"",#[],none⟩) hq hR.hd (qKc hR.tm (.load T (.tmp t))) hr with⟨r2,e,h2⟩|⟨_,_,_,e,_⟩
      · injection e with e;subst e
        obtain⟨b,o,hb⟩:∃b o,slS σ.sl t= .c (.p b o):=by
         unfold ex0 at hr;simp only[opv] at hr;split at hr
         · rename_i b o hx
           injection hx with hx;exact⟨b,o,hx⟩
         · cases hr
        have hs:a.tmps.getD t undef= .pointer (some ⟨ad b,o,none⟩):=by rw[qKn hR.tm t,hb];rfl
        have h3:(loadVar T ⟨ad b,o,none⟩).run P w= .ok (vs qv ad r') w:=by
         simp only[execOp,Act.eval,hs,Instr.loadAt,Instr.sureAddr,Sem.run_bind,Sem.run_pure,Result.andThen_ok] at h2
         cases hx:(loadVar T ⟨ad b,o,none⟩).run P w with
         |ok v w2=>rw[hx] at h2;simp at h2;obtain⟨rfl,rfl⟩:=h2;rfl
         |halt x w2=>rw[hx] at h2;simp[Result.andThen] at h2
        have hs':a.tmps[t]?.getD undef= .pointer (some ⟨ad b,o,none⟩):=by rw[←hs];simp
        simp[results,hl,hs',asAddr,h3]
      · cases e
    · cases h
  · cases h
 exact key fn.results.toList (by simp) h
theorem qOV (hm:P.follows .mixedOrders=true) (hq:∀k,(qv k).oneCell'=true) (hf:FnOK P fnT) (hc:CallOK P w0 qv call) (ho:OrcOK P w0 qv orc):CallOK P w0 qv (evB P fnT orc call):=by
 intro f l bl r nw h;unfold evB at h;simp only[Option.bind_eq_some_iff] at h;obtain⟨fn,hfn,c,hbody,h⟩:=h;obtain⟨h1,h2⟩:=hf f fn hfn;refine⟨⟨fn,h1,h2,by rw[hbody];rfl⟩,fun ad w hH hO hl=>calls_of_wp h1 hbody ?_⟩;have h0:Rl w0 w qv ad bl.length ad ⟨l++List.replicate (fn.ntmps-l.length) (.c .u),bl⟩ {tmps:=(l.map (vs qv ad)).toArray++Array.replicate (fn.ntmps-(l.map (vs qv ad)).toArray.size) undef,defers:=[]} w:=by
  refine⟨?_,rfl,hH,hO,qBO _ _,fun j A hj h=> ?_,fun _ _=>rfl,qBL _,fun v hv j hj=> ?_⟩
  · apply Array.ext'
    simp[vs,lv]
  · have:j<bl.length:=(qBM.1 h).1;omega
  · rcases List.mem_append.1 hv with hv|hv
    · exact hl v hv j hj
    · rw[(List.mem_replicate.1 hv).2] at hj;simp[SV.refs,SL.refs] at hj
 have fin:∀{e σ},evC P orc call bl.length c ⟨l++List.replicate (fn.ntmps-l.length) (.c .u),bl⟩=some (e,σ)→(e= .n∨e= .r)→(resS P σ fn.results.toList).map (fun r=>(r,σ.bl.drop bl.length))=some (r,nw)→c.wp P (bodyPost P fn fun e w'=>∃ad',Post qv ad bl nw w w' ad'∧e= .returned (vs qv ad' r)) {tmps:=(l.map (vs qv ad)).toArray++Array.replicate (fn.ntmps-(l.map (vs qv ad)).toArray.size) undef,defers:=[]} w:=fun {e σ} he hor hr=>by
  simp only[Option.map_eq_some_iff,Prod.mk.injEq] at hr;obtain⟨r',hr',rfl,rfl⟩:=hr;refine evC_ok hm hq hc ho c _ e σ ad _ w _ he h0 fun ad' a' w' hR=> ?_;have hres:=res_run hR hq hr';have:a'.defers=[]∧∃v,(results fn a'.tmps).run P w'= .ok v w'∧∃ad',Post qv ad bl (σ.bl.drop bl.length) w w' ad'∧Ending.returned v= .returned (vs qv ad' r'):=by
   refine⟨hR.df,_,hres,ad',⟨hR.ag,hR.bw,fun j T cs hj=> ?_,fun i j A B hi hj e=> ?_⟩,rfl⟩
   · rw[List.getElem?_drop] at hj
     exact⟨hR.own _ _ (Nat.le_add_right _ _) hj,hR.hd.here _ T cs hj⟩
   · rw[List.getElem?_drop] at hi hj
     have:=hR.hd.inj _ _ A B hi hj e
     omega
  rcases hor with rfl|rfl<;>exact this
 split at h
 · cases h
 · cases h
 · rename_i e σ hne he
   refine fin he ?_ h
   cases e with
   |n=>exact .inl rfl
   |r=>exact .inr rfl
   |x id=>exact absurd rfl (hne id)
theorem evF_ok (hm:P.follows .mixedOrders=true) (hq:∀k,(qv k).oneCell'=true) (hf:FnOK P fnT) (ho:OrcOK P w0 qv orc) (hs:SpOK P w0 qv spec):∀n,CallOK P w0 qv (evF P fnT orc spec n):=by
 have sp:∀{f l bl r r' nw},spec f l=some r'→(r',[])=(r,nw)→Callee P f∧∀ad w,Held w0.heap.size qv ad bl w→Below w0.heap.size w0 w→(∀v∈l,∀j∈v.refs,j<bl.length)→
  Calls P f (l.map (vs qv ad)).toArray w fun e w'=>∃ad',Post qv ad bl nw w w' ad'∧e= .returned (vs qv ad' r):=fun {f l bl r r' nw} h he=>by
  injection he with h1 h2;subst h1;subst h2;obtain⟨hc,hC⟩:=hs f l _ h;exact⟨hc,fun ad w _ hO _=>(hC ad w hO).mono fun e w' ⟨h1,h2⟩=>⟨ad,⟨fun _ _=>rfl,h2,fun j T cs h=>by simp at h,fun i j A B h=>by simp at h⟩,h1⟩⟩
 intro n
 induction n with
 |zero=>
  intro f l bl r nw h;simp only[evF,Option.map_eq_some_iff] at h;obtain⟨r',hr,he⟩:=h;exact sp hr he
 |succ n ih=>
  intro f l bl r nw h;simp only[evF] at h;split at h
  · rename_i r' hr
    injection h with he;exact sp hr he
  · exact qOV hm hq hf ih ho f l bl r nw h
end
def Chgs (K:Nat) (ins outs:List Typ) (w:World) (e:Ending) (w':World):Prop:=
 Below w.heap.size w w'∧∃A n c B m d,e= .returned (.agg #[.slice A n c,.slice B m d])∧tysL.R (fun b=>b<K∨w.heap.size≤b∧b<w'.heap.size) w' [.slice A n c] ins∧tysL.R (fun b=>b<K∨w.heap.size≤b∧b<w'.heap.size) w' [.slice B m d] outs
theorem lit_sl {S:Nat→Prop} {g n:Nat} {cs:Array Value} (h:Blk w g 61 cs) (hg:S g) (hc:cs.toList=T2 ts) (ha:A64 ts) (hn:ts.length=n) (hm:n≤1000):tysL.R S w [.slice (some ⟨g,0,none⟩) n n] ts:=by
 subst hn;have e:∀i,(⟨g,0,none⟩:Addr).add i=⟨g,i,none⟩:=fun i=>by unfold Addr.add;split<;>simp_all
 have hcell:∀i u,(T2 ts)[i]? =some u→w.cell? ⟨g,i,none⟩=some u:=fun i u hu=>by
  rw[h.cell i,←hu,←hc];simp
 refine⟨some ⟨g,0,none⟩,ts.length,rfl,qBL _,by simp only[maxLen];omega,fun _=>⟨_,rfl,hg,fun j t ht=>⟨_,fun i u hu=> ?_,rfl,ha t (qBQ ht)⟩⟩⟩
 match i,hu with
 |0,hu=>simp at hu;subst hu;rw[e];exact hcell (j*2) _ (qFP ht)
 |1,hu=>simp at hu;subst hu;rw[e];exact hcell (j*2+1) _ (qFO ht)
 |i+2,hu=>simp at hu
theorem lit_lt {g n N K:Nat} {cs:Array Value} (h:Blk w g 61 cs) (hlo:N≤g) (hc:cs.toList=T2 ts) (ha:A64 ts) (hn:ts.length=n) (hm:n≤1000):tysL.R (fun b=>b<K∨N≤b∧b<w.heap.size) w [.slice (some ⟨g,0,none⟩) n n] ts:=lit_sl h (.inr ⟨hlo,h.lt⟩) hc ha hn hm
theorem qCR {k:Int} (h:0≤k) (h':k≤1000):I64 k:=⟨by omega,by omega⟩
theorem qOr {t:Typ} (h:I64 t.1∧I64 t.2) (ha:A64 ts):A64 (t::ts):=fun u hu=>by
 rcases List.mem_cons.1 hu with rfl|h1
 · exact h
 · exact ha u h1
end Go.Proofs.YtgdbhanhmenmfaaGreat
