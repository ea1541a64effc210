/-
Sxe Lst Sxf
-/
import Derived.Test.YtelceoecekfamaaGreatProg
import Derived.Test.YtelceoecekfamaaGreatQ01
import Derived.Test.YtelceoecekfamaaGreatQ13
import Derived.Deep.RegionHeld3
set_option linter.unusedSimpArgs false
set_option linter.unusedVariables false
namespace Go.Proofs.YtelceoecekfamaaGreat
open Go.RowKit
variable {i j:Nat}{listed:Array Bool}{nws:List Bk}{o:Oper}{sl:List SV}
def deps (o:Oper):List Nat:=(o.after.toList.filter fun e=>Region.binds .any e).map (·.on)
def opTm (op:Op):List Nat:=op.operands.toList.filterMap fun| .tmp t=>some t|_=>none
structure Rc where
 sl:List SV
 k:Nat
 r:SV
 nw:List Bk
 t:Option (Nat×List SL)
def Rc.rf (c:Rc):List Nat:=c.r.refs++refsB c.nw++(c.t.map fun x=>refsL x.2).getD []
def okB (all:List Oper) (n0 m:Nat) (pre:List Rc) (o:Oper) (c:Rc):Bool:=
 o.guard.isNone && (opTm o.op).all (fun t=>all.zipIdx.all fun x=>x.1.dst != some t || (deps o).contains x.2) && (deps o).all (fun k=>decide (k<pre.length)) &&
 c.rf.all fun j=>decide (j<n0) || (decide (n0+m≤j) && decide (j<n0+m+c.nw.length)) || (decide (j<n0+m) && (deps o).any fun k=>((pre[k]?).map fun c=>c.rf.contains j).getD false)
def dsB (all:List Oper) (n i d:Nat):Bool:=decide (d<n) && all.zipIdx.all fun x=>x.2==i || x.1.dst != some d
def stB (P:Program) (n0:Nat) (sl:List SV) (nws:List Bk) (pre:List Rc) (o:Oper) (T:Nat) (x v:Operand):Option (Nat×Nat×List SL):=match opv (slS sl) x,opv (slS sl) v with
 |some (.c (.p b 0)),some u=>match nws[b-n0]? with
  |some (some (T',cs))=>if n0≤b∧szT P T=some cs.length∧u.cells.length=cs.length∧(u.cells.all fun| .u=>false|_=>true)∧(pre.all fun c=>c.t.map (·.1) != some b)∧((deps o).any fun k=>((pre[k]?).map fun c=>decide (c.k≤b) && decide (b<c.k+c.nw.length)).getD false) then some (b,T',u.cells) else none
  |_=>none
 |_,_=>none
def exD (P:Program) (orc:Op→List SV→Option SV) (call:Cal) (all:List Oper) (bl0:List Bk):List Oper→List SV→List Bk→List Rc→Option (List SV×List Bk×List Rc)
 |[],sl,nws,pre=>some (sl,nws,pre)
 |o::l,sl,nws,pre=>match o.dst with
  |some d=>match ex P orc call (slS sl) (bl0++List.replicate nws.length none) o.op with
   |some (r,nw)=>if dsB all sl.length pre.length d && okB all bl0.length nws.length pre o ⟨sl,bl0.length+nws.length,r,nw,none⟩ then exD P orc call all bl0 l (sl.set d r) (nws++nw) (pre++[⟨sl,bl0.length+nws.length,r,nw,none⟩]) else none
   |none=>none
  |none=>match o.op with
   | .store T x v=>match stB P bl0.length sl nws pre o T x v with
     |some (b,T',cs)=>if okB all bl0.length nws.length pre o ⟨sl,bl0.length+nws.length,.c .u,[],some (b,cs)⟩ then exD P orc call all bl0 l sl (nws.set (b-bl0.length) (some (T',cs))) (pre++[⟨sl,bl0.length+nws.length,.c .u,[],some (b,cs)⟩]) else none
     |none=>none
   |_=>none
def Slt (all:List Oper) (pre:List Rc) (sl0:List SV) (n:Nat) (sl:List SV):Prop:=
 (∀t,(∀(k:Nat) q,k<n→all[k]? =some q→q.dst≠some t)→slS sl t=slS sl0 t)∧(∀(k:Nat) q c t,k<n→all[k]? =some q→q.dst=some t→pre[k]? =some c→slS sl t=c.r)
def Fill (pre:List Rc) (L:Nat→Prop) (j:Nat) (cs cs':List SL):Prop:=
 (∃(m:Nat) (c:Rc),L m∧pre[m]? =some c∧c.t=some (j,cs'))∨(cs'=cs∧∀(m:Nat) (c:Rc) x,L m→pre[m]? =some c→c.t≠some (j,x))
structure GdV (P:Program) (orc:Op→List SV→Option SV) (call:Cal) (all:List Oper) (bl0:List Bk) (sl0:List SV) (i:Nat) (c:Rc) (o:Oper) (d:Nat):Prop where
 hd:o.dst=some d
 dl:d<sl0.length
 ds:∀(k:Nat) q,all[k]? =some q→k≠i→q.dst≠some d
 ex:ex P orc call (slS c.sl) (bl0++List.replicate (c.k-bl0.length) none) o.op=some (c.r,c.nw)
 ht:c.t=none
structure GdS (P:Program) (n0:Nat) (pre:List Rc) (c:Rc) (o:Oper) (T:Nat) (x v:Operand) (b T':Nat) (cs:List SL) (u:SV):Prop where
 hd:o.dst=none
 op:o.op= .store T x v
 hx:opv (slS c.sl) x=some (.c (.p b 0))
 hv:opv (slS c.sl) v=some u
 sz:szT P T=some cs.length
 ln:u.cells.length=cs.length
 nu:(u.cells.all fun| .u=>false|_=>true)=true
 nw:c.nw=[]
 r:c.r= .c .u
 ht:c.t=some (b,u.cells)
 by_:∃m∈deps o,∃c',pre[m]? =some c'∧c'.k≤b∧c'.nw[b-c'.k]? =some (some (T',cs))
structure Gd1 (P:Program) (orc:Op→List SV→Option SV) (call:Cal) (all:List Oper) (bl0:List Bk) (sl0:List SV) (pre:List Rc) (i:Nat) (c:Rc) (o:Oper):Prop where
 ho:all[i]? =some o
 hg:o.guard=none
 dp:∀k∈deps o,k<i
 tm:∀t∈opTm o.op,∀(k:Nat) q,all[k]? =some q→q.dst=some t→k∈deps o
 rf:∀j∈c.rf,j<bl0.length∨(c.k≤j∧j<c.k+c.nw.length)∨(j<c.k∧∃m∈deps o,∃c',pre[m]? =some c'∧j∈c'.rf)
 st:Slt all pre sl0 i c.sl
 how:(∃d,GdV P orc call all bl0 sl0 i c o d)∨∃T x v b T' cs u,GdS P bl0.length pre c o T x v b T' cs u
structure Gd (P:Program) (orc:Op→List SV→Option SV) (call:Cal) (all:List Oper) (bl0:List Bk) (sl0 sl:List SV) (nws:List Bk) (pre:List Rc):Prop where
 ln:sl.length=sl0.length
 op:∀(i:Nat) c,pre[i]? =some c→∃o,Gd1 P orc call all bl0 sl0 pre i c o
 st:Slt all pre sl0 pre.length sl
 kk:∀(i:Nat) c,pre[i]? =some c→bl0.length≤c.k∧c.k+c.nw.length≤bl0.length+nws.length
 ord:∀(i m:Nat) c c',i<m→pre[i]? =some c→pre[m]? =some c'→c.k+c.nw.length≤c'.k
 un:∀(i m:Nat) c c' j x y,pre[i]? =some c→pre[m]? =some c'→c.t=some (j,x)→c'.t=some (j,y)→i=m
 tl:∀(i:Nat) c j x,pre[i]? =some c→c.t=some (j,x)→j<bl0.length+nws.length
 nw:∀j A,nws[j]? =some (some A)→∃(i:Nat) (c:Rc) (x:Nat) (cs:List SL),pre[i]? =some c∧c.nw[x]? =some (some (A.1,cs))∧c.k+x=bl0.length+j∧Fill pre (fun _=>True) (bl0.length+j) cs A.2
section
variable {P:Program} {orc:Op→List SV→Option SV} {call:Cal} {all:List Oper} {bl0:List Bk} {sl0:List SV}
theorem qFT {pre:List Rc} {c:Rc} {n:Nat} (hn:n≤pre.length) (h:Slt all pre sl0 n sl):Slt all (pre++[c]) sl0 n sl:=
 ⟨h.1,fun k q c' t hk ho hd hc=>h.2 k q c' t hk ho hd (by rwa [List.getElem?_append_left (by omega)] at hc)⟩
theorem qCk {pre:List Rc} {c:Rc} (h:pre[i]? =some c):i<pre.length:=(qAj.1 h).1
theorem qBZ {pre:List Rc} {c c':Rc} (h:(pre++[c])[i]? =some c'):(pre[i]? =some c')∨(i=pre.length∧c'=c):=by
 rw[List.getElem?_append] at h;split at h
 · exact .inl h
 · obtain⟨h1,h2⟩:=qAj.1 h
   have:i-pre.length=0:=by simp at h1;omega
   simp[this] at h2;exact .inr ⟨by omega,h2.symm⟩
theorem qCj {pre:List Rc} {c c':Rc} (h:pre[i]? =some c'):(pre++[c])[i]? =some c':=by
 rw[List.getElem?_append_left (qCk h)];exact h
theorem qHR {sl':List SV} {nws':List Bk} {pre:List Rc} {c:Rc} (hG:Gd P orc call all bl0 sl0 sl nws pre) (ho:all[pre.length]? =some o) (hk:c.k=bl0.length+nws.length) (hsl:c.sl=sl)
 (hok:okB all bl0.length nws.length pre o c=true) (hl':sl'.length=sl.length) (hn':nws'.length=nws.length+c.nw.length)
 (hs1:∀t,o.dst≠some t→slS sl' t=slS sl t) (hs2:∀t,o.dst=some t→slS sl' t=c.r) (how:(∃d,GdV P orc call all bl0 sl0 pre.length c o d)∨∃T x v b T' cs u,GdS P bl0.length pre c o T x v b T' cs u)
 (hun:∀(m:Nat) c' j x y,pre[m]? =some c'→c'.t=some (j,x)→c.t≠some (j,y)) (htl:∀j x,c.t=some (j,x)→j<bl0.length+nws.length)
 (hnw:∀j A,nws'[j]? =some (some A)→∃(i:Nat) (c1:Rc) (x:Nat) (cs:List SL),(pre++[c])[i]? =some c1∧c1.nw[x]? =some (some (A.1,cs))∧c1.k+x=bl0.length+j∧Fill (pre++[c]) (fun _=>True) (bl0.length+j) cs A.2):
 Gd P orc call all bl0 sl0 sl' nws' (pre++[c]):=by
 unfold okB at hok;simp only[Bool.and_eq_true,List.all_eq_true,Bool.or_eq_true,decide_eq_true_eq,bne_iff_ne,ne_eq,Option.isNone_iff_eq_none,List.contains_iff_mem,beq_iff_eq,List.any_eq_true,List.mem_zipIdx_iff_getElem?,Prod.forall] at hok;obtain⟨⟨⟨h1,h3⟩,h5⟩,h6⟩:=hok;have hds:∀(k:Nat) q d,o.dst=some d→all[k]? =some q→k≠pre.length→q.dst≠some d:=fun k q d hd hq hne=>by
  rcases how with⟨d',g⟩|⟨_,_,_,_,_,_,_,g⟩
  · have:d'=d:=by have:=g.hd;rw[hd] at this;injection this with this;exact this.symm
    exact this▸g.ds k q hq hne
  · rw[g.hd] at hd;cases hd
 have upS:∀{c' o' T x v b T' cs u},GdS P bl0.length pre c' o' T x v b T' cs u→GdS P bl0.length (pre++[c]) c' o' T x v b T' cs u:=fun g=>⟨g.hd,g.op,g.hx,g.hv,g.sz,g.ln,g.nu,g.nw,g.r,g.ht,let ⟨m,hm,c',h1,h2⟩:=g.by_;⟨m,hm,c',qCj h1,h2⟩⟩;refine⟨hl'.trans hG.ln,fun i c' hc=> ?_,⟨fun t ht=> ?_,fun k q c' t hk' hq hqd hc=> ?_⟩,fun i c' hc=> ?_,fun i m c1 c2 him hc hc'=> ?_,fun i m c1 c2 j x y hc hc' h h'=> ?_,fun i c' j x hc h=> ?_,hnw⟩
 · rcases qBZ hc with hc|⟨rfl,rfl⟩
   · obtain⟨o',g⟩:=hG.op i c' hc
     refine⟨o',g.ho,g.hg,g.dp,g.tm,fun j hj=>(g.rf j hj).imp id (.imp id fun⟨h,m,hm,c2,hc2,h'⟩=>⟨h,m,hm,c2,qCj hc2,h'⟩),qFT (Nat.le_of_lt (qCk hc)) g.st,g.how.imp id fun⟨T,x,v,b,T',cs,u,gs⟩=>⟨T,x,v,b,T',cs,u,upS gs⟩⟩
   · refine⟨o,ho,h1,h5,fun t ht k q hq hqd=>(h3 t ht q k hq).resolve_left fun h=>h hqd,fun j hj=> ?_,hsl▸qFT (qAi _) hG.st,how.imp id fun⟨T,x,v,b,T',cs,u,gs⟩=>⟨T,x,v,b,T',cs,u,upS gs⟩⟩
     rw[hk];rcases h6 j hj with(h|h)|⟨h,m,hm,h'⟩
     · exact .inl h
     · exact .inr (.inl h)
     · cases hc2:pre[m]? with
       |none=>simp[hc2] at h'
       |some c2=>exact .inr (.inr ⟨h,m,hm,c2,qCj hc2,by simpa[hc2] using h'⟩)
 · rw[hs1 t fun e=>ht pre.length o (by simp) ho e]
   exact hG.st.1 t fun k q hk=>ht k q qK
 · rcases qBZ hc with hc|⟨rfl,rfl⟩
   · rw[hs1 t fun e=>hds k q t e hq (by have:=qCk hc;omega) hqd]
     exact hG.st.2 k q c' t (qCk hc) hq hqd hc
   · rw[ho] at hq
     injection hq with hq;subst hq;exact hs2 t hqd
 · rcases qBZ hc with hc|⟨rfl,rfl⟩
   · have:=hG.kk i c' hc;omega
   · omega
 · rcases qBZ hc with k1|⟨e1,e2⟩
   · rcases qBZ hc' with k2|⟨e1,e2⟩
     · exact hG.ord i m c1 c2 him k1 k2
     · rw[e2,hk];exact(hG.kk i c1 k1).2
   · have:=qCk hc';simp at this;omega
 · rcases qBZ hc with k1|⟨e1,e2⟩<;>rcases qBZ hc' with k2|⟨e3,e4⟩
   · exact hG.un i m c1 c2 j x y k1 k2 h h'
   · exact absurd (e4▸h') (hun i c1 j x y k1 h)
   · exact absurd (e2▸h) (hun m c2 j y x k2 h')
   · rw[e1,e3]
 · rcases qBZ hc with hc|⟨rfl,rfl⟩
   · have:=hG.tl i c' j x hc h;omega
   · have:=htl j x h;omega
theorem qHT {pre:List Rc} {c:Rc} {cs cs':List SL} (h:Fill pre (fun _=>True) j cs cs') (hc:∀x,c.t≠some (j,x)):Fill (pre++[c]) (fun _=>True) j cs cs':=by
 rcases h with⟨m,c',-,h1,h2⟩|⟨h1,h2⟩
 · exact .inl ⟨m,c',trivial,qCj h1,h2⟩
 · refine .inr ⟨h1,fun m c' x _ hm=> ?_⟩
   rcases qBZ hm with hm|⟨-,rfl⟩
   · exact h2 m c' x trivial hm
   · exact hc x
theorem gd_snoc {nw:List Bk} {pre:List Rc} {d:Nat} {r:SV} (hG:Gd P orc call all bl0 sl0 sl nws pre) (ho:all[pre.length]? =some o) (hd:o.dst=some d)
 (he:ex P orc call (slS sl) (bl0++List.replicate nws.length none) o.op=some (r,nw)) (hds:dsB all sl.length pre.length d=true) (hok:okB all bl0.length nws.length pre o ⟨sl,bl0.length+nws.length,r,nw,none⟩=true):
 Gd P orc call all bl0 sl0 (sl.set d r) (nws++nw) (pre++[⟨sl,bl0.length+nws.length,r,nw,none⟩]):=by
 unfold dsB at hds;simp only[Bool.and_eq_true,List.all_eq_true,Bool.or_eq_true,decide_eq_true_eq,bne_iff_ne,ne_eq,beq_iff_eq,List.mem_zipIdx_iff_getElem?,Prod.forall] at hds;obtain⟨h2,h4⟩:=hds;refine qHR hG ho rfl rfl hok (by simp) (by simp) (fun t ht=> ?_) (fun t ht=> ?_) (.inl ⟨d,hd,by have:=hG.ln;omega,fun k q hq hne=>(h4 q k hq).resolve_left hne,by simpa using he,rfl⟩) (fun m c' j x y _ _ h=>by cases h) (fun j x h=>by cases h) fun j A hj=> ?_
 · have hne:d≠t:=fun e=>ht (by rw[hd,e])
   simp only[slS,List.getD_eq_getElem?_getD,List.getElem?_set_ne hne]
 · rw[hd] at ht;injection ht with ht;subst ht
   simp[slS,h2]
 · rw[List.getElem?_append] at hj
   split at hj
   · obtain⟨i,c,x,cs,k1,k2,k3,k4⟩:=hG.nw j A hj
     exact⟨i,c,x,cs,qCj k1,k2,k3,qHT k4 fun x h=>by cases h⟩
   · refine⟨pre.length,_,j-nws.length,A.2,List.getElem?_concat_length,hj,by simp only;omega,.inr ⟨rfl,fun m c' x _ hm h=> ?_⟩⟩
     rcases qBZ hm with hm|⟨-,rfl⟩
     · have:=hG.tl m c' _ x hm h;omega
     · cases h
theorem qJZ {pre:List Rc} {T b T':Nat} {x v:Operand} {us:List SL} (hG:Gd P orc call all bl0 sl0 sl nws pre) (ho:all[pre.length]? =some o) (hd:o.dst=none) (hop:o.op= .store T x v)
 (hst:stB P bl0.length sl nws pre o T x v=some (b,T',us)) (hok:okB all bl0.length nws.length pre o ⟨sl,bl0.length+nws.length,.c .u,[],some (b,us)⟩=true):
 Gd P orc call all bl0 sl0 sl (nws.set (b-bl0.length) (some (T',us))) (pre++[⟨sl,bl0.length+nws.length,.c .u,[],some (b,us)⟩]):=by
 unfold stB at hst;split at hst
 · rename_i b' u hx hv
   split at hst
   · rename_i T2 cs hb
     split at hst
     · rename_i hc
       simp only[Option.some.injEq,Prod.mk.injEq] at hst;obtain⟨rfl,rfl,rfl⟩:=hst;obtain⟨h1,h2,h3,h4,h5,h6⟩:=hc;simp only[List.all_eq_true,bne_iff_ne,ne_eq] at h5;simp only[List.any_eq_true] at h6;have hbl:b'-bl0.length<nws.length:=(qAj.1 hb).1;have hno:∀(m:Nat) c' x,pre[m]? =some c'→c'.t≠some (b',x):=fun m c' x hm h=>h5 c' (qAl hm) (by rw[h];rfl);obtain⟨i,c,y,cs2,k1,k2,k3,k4⟩:=hG.nw _ _ hb;have e1:bl0.length+(b'-bl0.length)=b':=by omega
       rw[e1] at k3 k4;have ecs:cs=cs2:=by
        rcases k4 with⟨m,c',-,hm,h⟩|⟨h,-⟩
        · exact absurd h (hno m c' _ hm)
        · exact h
       subst ecs;have hyl:y<c.nw.length:=(qAj.1 k2).1;refine qHR hG ho rfl rfl hok rfl (by simp) (fun t _=>rfl) (fun t ht=>by rw[hd] at ht;cases ht) (.inr ⟨T,x,v,b',T2,cs,u,hd,hop,hx,hv,h2,h3,h4,rfl,rfl,rfl,?_⟩) (fun m c' j z z' hm h h'=> ?_) (fun j z h=> ?_) fun j A hj=> ?_
       · obtain⟨k,hk,h⟩:=h6
         cases hc':pre[k]? with
         |none=>simp[hc'] at h
         |some c'=>
          simp only[hc',Option.map_some,Option.getD_some,Bool.and_eq_true,decide_eq_true_eq] at h;have e:k=i:=by
           rcases Nat.lt_trichotomy k i with q|q|q
           · have:=hG.ord k i c' c q hc' k1;omega
           · exact q
           · have:=hG.ord i k c c' q k1 hc';omega
          subst e;rw[k1] at hc';injection hc' with hc';subst hc'
          exact⟨k,hk,c,k1,h.1,by rw[show b'-c.k=y by omega];exact k2⟩
       · injection h' with h';injection h' with e2 _
         exact hno m c' z hm (e2▸h)
       · injection h with h;injection h with h _;omega
       · by_cases e:b'-bl0.length=j
         · subst e
           rw[List.getElem?_set_self hbl] at hj;injection hj with hj;injection hj with hj;subst hj;rw[e1];exact⟨i,c,y,cs,qCj k1,k2,k3,.inl ⟨pre.length,_,trivial,List.getElem?_concat_length,rfl⟩⟩
         · rw[List.getElem?_set_ne e] at hj
           obtain⟨i2,c2,x2,cs3,l1,l2,l3,l4⟩:=hG.nw j A hj;exact⟨i2,c2,x2,cs3,qCj l1,l2,l3,qHT l4 fun z h=>by injection h with h;injection h with h _;omega⟩
     · cases hst
   · cases hst
 · cases hst
theorem qJe:∀(l:List Oper) (sl:List SV) (nws:List Bk) (pre:List Rc) {F:List SV×List Bk×List Rc},exD P orc call all bl0 l sl nws pre=some F→(∀j,all[pre.length+j]? =l[j]?)→Gd P orc call all bl0 sl0 sl nws pre→Gd P orc call all bl0 sl0 F.1 F.2.1 F.2.2∧F.2.2.length=pre.length+l.length
 |[],sl,nws,pre,F,h,_,hG=>by
  simp[exD] at h;subst h;exact⟨hG,by simp⟩
 |o::l,sl,nws,pre,F,h,hl,hG=>by
  have ho:all[pre.length]? =some o:=by simpa using hl 0
  have next:∀{sl' nws' c},exD P orc call all bl0 l sl' nws' (pre++[c])=some F→Gd P orc call all bl0 sl0 sl' nws' (pre++[c])→Gd P orc call all bl0 sl0 F.1 F.2.1 F.2.2∧F.2.2.length=pre.length+(o::l).length:=fun {sl' nws' c} h g=>by
   have:=qJe l _ _ _ h (fun j=>by have:=hl (j+1);simp only[List.length_append,List.length_cons,List.length_nil];rw[show pre.length+(0+1)+j=pre.length+(j+1) by omega];simpa using this) g;exact⟨this.1,by rw[this.2];simp;omega⟩
  unfold exD at h;split at h
  · rename_i d hd
    split at h
    · rename_i r nw he
      split at h
      · rename_i hok
        rw[Bool.and_eq_true] at hok;exact next h (gd_snoc hG ho hd he hok.1 hok.2)
      · cases h
    · cases h
  · rename_i hd
    split at h
    · rename_i T x v hop
      split at h
      · rename_i b T' cs hst
        split at h
        · rename_i hok
          exact next h (qJZ hG ho hd hop hst hok)
        · cases h
      · cases h
    · cases h
theorem gd_nil:Gd P orc call all bl0 sl0 sl0 [] []:=
 ⟨rfl,fun i c h=>by simp at h,⟨fun t _=>rfl,fun k q c t h=>by simp at h⟩,fun i c h=>by simp at h,fun i m c c' _ h=>by simp at h,fun i m c c' j x y h=>by simp at h,fun i c j x h=>by simp at h,fun j A h=>by simp at h⟩
end
section
variable {P:Program} {ops:Array Oper} {Q:Exit→Go.Act→World→Prop} {L:Oper}
def lastB (ops:Array Oper) (L:Oper):Bool:=
 (List.range ops.size).all (fun j=>L.after.toList.any fun e=>Region.binds .any e && e.on==j) && L.after.toList.all (fun e=>decide (e.on<ops.size)) && L.guard.isNone &&
 (List.range ops.size).all (fun j=>((ops[j]?).map fun o=>o.guard.isNone && o.after.toList.all (fun e=>decide (e.on<j))).getD true)
def lastQ (P:Program) (L:Oper) (Q:Exit→Go.Act→World→Prop):Exit→Go.Act→World→Prop
 | .normal,a,w=>L.wp P a w (fun a' w'=>Q .normal a' w') Q
 | .panic c,a,w=>Q (.panic c) a w
 | .outgrown,a,w=>Q .outgrown a w
 |e,a,w=>Q e a w
theorem qFw (h:lastB ops L=true) (hj:j<ops.size):∃e∈L.after,Region.binds .any e=true∧e.on=j:=by
 unfold lastB at h;simp only[Bool.and_eq_true,List.all_eq_true,List.mem_range,List.any_eq_true] at h;obtain⟨e,he,h1⟩:=h.1.1.1 j hj;simp only[beq_iff_eq] at h1;exact⟨e,Array.mem_toList_iff.1 he,h1.1,h1.2⟩
theorem qJI (h:lastB ops L=true) {e:Edge} (he:e∈L.after):e.on<ops.size:=by
 unfold lastB at h;simp only[Bool.and_eq_true,List.all_eq_true,decide_eq_true_eq] at h;exact h.1.1.2 e (Array.mem_toList_iff.2 he)
theorem qFv (h:lastB ops L=true):L.guard=none:=by
 unfold lastB at h;simp only[Bool.and_eq_true,Option.isNone_iff_eq_none] at h;exact h.1.2
theorem qFu (h:lastB ops L=true) (ho:ops[j]? =some o):o.guard=none∧∀e∈o.after,e.on<j:=by
 unfold lastB at h;simp only[Bool.and_eq_true,List.all_eq_true,List.mem_range] at h;have:=h.2 j (Array.getElem?_eq_some_iff.1 ho).1;rw[ho] at this;simp only[Option.map_some,Option.getD_some,Bool.and_eq_true,Option.isNone_iff_eq_none,List.all_eq_true,decide_eq_true_eq] at this;exact⟨this.1,fun e he=>this.2 e (Array.mem_toList_iff.2 he)⟩
theorem qCR (hj:j<listed.size):(listed.push false).getD j true=listed.getD j true:=by
 simp[Array.getElem?_push,Nat.ne_of_lt hj]
theorem qCJ (listed:Array Bool) (j:Nat):(listed.push false).getD j false=listed.getD j false:=by
 simp only[Array.getD_eq_getD_getElem?,Array.getElem?_push];split
 · rename_i e
   subst e;simp
 · rfl
theorem qDy (listed:Array Bool):(listed.push false).getD listed.size true=false:=by simp
theorem qB2 (hs:listed.size=ops.size) (hj:j<ops.size):j∈Region.ready .any (ops.push L) (listed.push false)↔j∈Region.ready .any ops listed:=by
 rw[mem_ready,mem_ready,qCR (by omega),Array.getElem?_push,if_neg (by omega)];simp only[qCJ]
theorem qCI (h:lastB ops L=true) (hs:listed.size=ops.size):ops.size∈Region.ready .any (ops.push L) (listed.push false)↔∀j,j<ops.size→listed.getD j false=true:=by
 rw[mem_ready,←hs,qDy,hs,Array.getElem?_push,if_pos rfl];simp only[qCJ,true_and,Option.some.injEq,exists_eq_left']
 constructor
 · intro h1 j hj
   obtain⟨e,he,h2,rfl⟩:=qFw h hj;exact h1 e he h2
 · exact fun h1 e he _=>h1 _ (qJI h he)
theorem qG9 (h:lastB ops L=true) (hs:listed.size=ops.size) (hr:Region.ready .any ops listed=[]):∀j,j<ops.size→listed.getD j false=true:=by
 intro j
 induction j using Nat.strongRecOn with
 |ind j ih=>
  intro hj
  cases hl:listed.getD j false with
  |true=>rfl
  |false=>
   have hm:j∈Region.ready .any ops listed:=by
    rw[mem_ready];have ho:ops[j]? =some ops[j]:=Array.getElem?_eq_getElem hj;refine⟨?_,_,ho,fun e he _=> ?_⟩
    · have hj':j<listed.size:=by omega
      simp[hj'] at hl⊢;exact hl
    · have:=(qFu h ho).2 e he
      exact ih _ this (by omega)
   rw[hr] at hm
   cases hm
theorem qHb {a:Go.Act} {w:World} {K:Go.Act→World→Prop} (h:o.wp P a w K (lastQ P L Q)):o.wp P a w K Q:=by
 unfold Oper.wp at*;generalize (execOp a.eval o).run P w=r at*
 cases r with
 |ok n w'=>
  cases n<;>simp only[Oper.upon] at h⊢<;>
   first
    |exact h
    |exact Calls.mono h (fun e w'' he=>by cases e<;>exact he)
 |halt x w'=>cases x<;>simp only[Oper.upon] at h⊢<;>exact h
theorem qEX (h:LetsOut (lastQ P L Q)):LetsOut Q:=h
theorem qCQ {md:Region.Mode} (h:j∈Region.ready md ops listed):j<ops.size:=by
 rw[mem_ready] at h;obtain⟨-,o,ho,-⟩:=h;exact(Array.getElem?_eq_some_iff.1 ho).1
theorem qCK (h:lastB ops L=true) {fuel:Nat} {a:Go.Act} {w:World} (hs:listed.size=ops.size) (hr:Region.ready .any ops listed=[]) (hq:L.wp P a w (fun a' w'=>Q .normal a' w') Q):
 wpAny P .any (ops.push L) Q (fuel+1) (listed.push false) a w:=by
 have hall:=qG9 h hs hr;have hin:=(qCI h hs).2 hall;refine⟨fun h0=>(by rw[h0] at hin;cases hin),fun i hi=> ?_⟩;have hil:=qCQ hi;have he:i=ops.size:=by
  rcases Nat.lt_or_ge i ops.size with h1|h1
  · have:=(qB2 hs h1).1 hi
    rw[hr] at this
    cases this
  · simp at hil;omega
 subst he;have hL:(ops.push L)[ops.size]? =some L:=by simp
 unfold wpOp;simp only[hL];have hw:Region.wanted L (yielded (ops.push L) a.tmps)=true:=by simp[Region.wanted,qFv h]
 rw[if_pos hw];refine .inl (Oper.wp_mono (fun a' w' hq'=> ?_) hq);have hr0:Region.ready .any (ops.push L) ((listed.push false).setIfInBounds ops.size true)=[]:=by
  apply List.eq_nil_iff_forall_not_mem.2
  intro j hj;have hjl:=qCQ hj;rw[mem_ready] at hj;obtain⟨h1,-⟩:=hj
  by_cases e:ops.size=j
  · subst e
    simp[hs] at h1
  · rw[getD_set_ne true e,qCR (by simp at hjl;omega)] at h1
    have:=hall j (by simp at hjl;omega);have hj':j<listed.size:=by simp at hjl;omega
    simp[hj'] at h1 this;rw[this] at h1
    cases h1
 cases fuel with
 |zero=>exact⟨hr0,hq'⟩
 |succ fuel=>exact⟨fun _=>hq',by rw[hr0];intro i hi;cases hi⟩
theorem qGD (h:lastB ops L=true):∀(fuel:Nat) (listed:Array Bool) (a:Go.Act) (w:World),listed.size=ops.size→wpAny P .any ops (lastQ P L Q) fuel listed a w→wpAny P .any (ops.push L) Q (fuel+1) (listed.push false) a w:=by
 intro fuel
 induction fuel with
 |zero=>exact fun listed a w hs hq=>qCK h hs hq.1 hq.2
 |succ fuel ih=>
  intro listed a w hs hq
  cases hr:Region.ready .any ops listed with
  |nil=>exact qCK h hs hr (hq.1 hr)
  |cons r rs=>
   have hnot:¬ops.size∈Region.ready .any (ops.push L) (listed.push false):=fun hin=>by
    have hall:=(qCI h hs).1 hin;have hm:r∈Region.ready .any ops listed:=by rw[hr];exact List.mem_cons_self ..
    have hrl:=qCQ hm;rw[mem_ready] at hm;have:=hall r hrl;have hr':r<listed.size:=by omega
    have h1:=hm.1;simp[hr'] at h1 this;rw[this] at h1
    cases h1
   have hsome:r∈Region.ready .any (ops.push L) (listed.push false):=(qB2 hs (qCQ (by rw[hr];exact List.mem_cons_self ..))).2 (by rw[hr];exact List.mem_cons_self ..);refine⟨fun h0=>(by rw[h0] at hsome;cases hsome),fun i hi=> ?_⟩;have hil:=qCQ hi;have hi2:i<ops.size:=by
    rcases Nat.lt_or_ge i ops.size with h1|h1
    · exact h1
    · have e:i=ops.size:=by simp at hil;omega
      subst e;exact absurd hi hnot
   have h1:=hq.2 i ((qB2 hs hi2).1 hi);have ho:ops[i]? =some ops[i]:=Array.getElem?_eq_getElem hi2;have ho2:(ops.push L)[i]? =some ops[i]:=by rw[Array.getElem?_push,if_neg (by omega)];exact ho
   have hg:=(qFu h ho).1;unfold wpOp at h1⊢;simp only[ho] at h1;simp only[ho2];have hw1:Region.wanted ops[i] (yielded ops a.tmps)=true:=by simp[Region.wanted,hg]
   have hw2:Region.wanted ops[i] (yielded (ops.push L) a.tmps)=true:=by simp[Region.wanted,hg]
   rw[if_pos hw1] at h1;rw[if_pos hw2];refine h1.imp (fun h2=>Oper.wp_mono (fun a' w' h3=> ?_) (qHb h2)) fun h2=>⟨h2.1,qEX h2.2⟩;have e:(listed.push false).setIfInBounds i true=(listed.setIfInBounds i true).push false:=by
    apply Array.ext_getElem?
    intro j;simp only[Array.getElem?_setIfInBounds,Array.getElem?_push,Array.size_push,Array.size_setIfInBounds]
    by_cases e1:i=j
    · subst e1
      have:i≠listed.size:=by omega
      have h4:i<listed.size:=by omega
      simp[this,h4]
      omega
    · simp[e1]
   rw[e];exact ih _ _ _ (by simpa using hs) h3
def initO:Oper→List Oper→List Oper
 |_,[]=>[]
 |o,b::l=>o::initO b l
def lastO:Oper→List Oper→Oper
 |o,[]=>o
 |_,b::l=>lastO b l
end
structure Iv (ops:Array Oper) (qv:Nat→Value) (ad0:Nat→Nat) (n0 n:Nat) (pre:List Rc) (a0:Go.Act) (wS:World) (listed:Array Bool) (a:Go.Act) (w:World) (ad:Nat→Nat):Prop where
 sz:listed.size=ops.size
 ag:∀j,j<n0→ad j=ad0 j
 bw:Below wS.heap.size wS w
 fr:Fram ops n a0 a
 sl:∀(i:Nat) c o d,listed.getD i false=true→pre[i]? =some c→ops[i]? =some o→o.dst=some d→a.tmps.getD d undef=vs qv ad c.r
 bk:∀(i:Nat) c (x T:Nat) (cs:List SL),listed.getD i false=true→pre[i]? =some c→c.nw[x]? =some (some (T,cs))→wS.heap.size≤ad (c.k+x)∧∃cs',w.heap[ad (c.k+x)]? =some (.cells (cs'.map (lv qv ad)).toArray T (0,0))∧Fill pre (fun m=>listed.getD m false=true) (c.k+x) cs cs'
 ij:∀(i m:Nat) c c' (x y:Nat) A B,listed.getD i false=true→listed.getD m false=true→pre[i]? =some c→pre[m]? =some c'→c.nw[x]? =some (some A)→c'.nw[y]? =some (some B)→ad (c.k+x)=ad (c'.k+y)→c.k+x=c'.k+y
 dp:∀(i:Nat) o,listed.getD i false=true→ops[i]? =some o→∀k∈deps o,listed.getD k false=true
 rf:∀(i:Nat) c j,listed.getD i false=true→pre[i]? =some c→j∈c.rf→j<n0∨∃(m:Nat) (c':Rc),listed.getD m false=true∧pre[m]? =some c'∧c'.k≤j∧j<c'.k+c'.nw.length
section
variable {P:Program} {qv:Nat→Value} {ad ad0:Nat→Nat} {M:Nat} {bl0 nws:List Bk} {w wS w0:World} {a a0:Go.Act} {orc:Op→List SV→Option SV} {call:Cal} {sl sl0:List SV} {pre:List Rc} {ops:Array Oper} {Q:Exit→Go.Act→World→Prop} {listed:Array Bool}
theorem qJT (h:Held M qv ad0 bl0 wS) (hb:Below wS.heap.size wS w) (ha:∀j,j<bl0.length→ad j=ad0 j) (k:Nat):Held M qv ad (bl0++List.replicate k none) w:=by
 have hs:∀(j:Nat) A,(bl0++List.replicate k none)[j]? =some (some A)→bl0[j]? =some (some A)∧j<bl0.length:=fun j A hj=>by
  rw[List.getElem?_append] at hj;split at hj
  · exact⟨hj,‹_›⟩
  · simp[List.getElem?_replicate] at hj
 refine⟨fun j T cs hj=> ?_,fun i j A B hi hj e=> ?_,fun j A hj=> ?_,fun j T cs hj x hx=> ?_⟩
 · obtain⟨h1,h2⟩:=hs j _ hj
   rw[ha j h2,hb.block _ (h.lt h1),h.here j T cs h1,qBt fun x hx=>(ha x (h.bd j T cs h1 x hx)).symm]
 · obtain⟨h1,h2⟩:=hs i _ hi
   obtain⟨h3,h4⟩:=hs j _ hj;exact h.inj i j A B h1 h3 (by rwa [ha i h2,ha j h4] at e)
 · obtain⟨h1,h2⟩:=hs j _ hj
   rw[ha j h2];exact h.lo j A h1
 · obtain⟨h1,h2⟩:=hs j _ hj
   have:=h.bd j T cs h1 x hx;simp;omega
theorem qDq (ht:a0.tmps=(sl0.map (vs qv ad0)).toArray) (t:Nat):a0.tmps.getD t undef=vs qv ad0 (slS sl0 t):=by
 rw[ht];simp only[slS,List.getD_eq_getElem?_getD,Array.getD_eq_getD_getElem?,List.getElem?_toArray,List.getElem?_map]
 cases sl0[t]? <;>rfl
theorem qId (hs:∀v∈sl0,∀j∈v.refs,j<M) (t:Nat):∀j∈(slS sl0 t).refs,j<M:=fun j hj=>by
 unfold slS at hj;rw[List.getD_eq_getElem?_getD] at hj
 cases h:sl0[t]? with
 |none=>simp[h,SV.refs,SL.refs] at hj
 |some v=>exact hs v (qAl h) j (by simpa[h] using hj)
theorem iv_tm (hI:Iv ops qv ad0 bl0.length sl0.length pre a0 wS listed a w ad) (ht:a0.tmps=(sl0.map (vs qv ad0)).toArray) (hs:∀v∈sl0,∀j∈v.refs,j<bl0.length) {t:Nat} (hn:∀(k:Nat) q,ops[k]? =some q→q.dst≠some t):a.tmps.getD t undef=vs qv ad (slS sl0 t):=by
 rw[hI.fr.rest t hn,qDq ht t];exact qB4 fun j hj=>(hI.ag j (qId hs t j hj)).symm
theorem fill_rf {L:Nat→Prop} {x T:Nat} {c:Rc} {cs cs':List SL} (hc:pre[i]? =some c) (hx:c.nw[x]? =some (some (T,cs))) (hL:L i) (h:Fill pre L j cs cs'):∃(m:Nat) (c':Rc),L m∧pre[m]? =some c'∧∀y∈refsL cs',y∈c'.rf:=by
 rcases h with⟨m,c',h1,h2,h3⟩|⟨rfl,-⟩
 · exact⟨m,c',h1,h2,fun y hy=>List.mem_append.2 (.inr (by rw[h3];exact hy))⟩
 · exact⟨i,c,hL,hc,fun y hy=>List.mem_append.2 (.inl (List.mem_append.2 (.inr (qDE hx hy))))⟩
theorem iv_step (hq:∀k,(qv k).oneCell'=true) (hc:CallOK P w0 qv call) (ho:OrcOK P w0 qv orc) (hG:Gd P orc call ops.toList bl0 sl0 sl nws pre) (hl:pre.length=ops.size) (hH:Held w0.heap.size qv ad0 bl0 wS) (hO:Below w0.heap.size w0 wS)
 (ht:a0.tmps=(sl0.map (vs qv ad0)).toArray) (hs:∀v∈sl0,∀j∈v.refs,j<bl0.length) (hi:i∈Region.ready .any ops listed) (hI:Iv ops qv ad0 bl0.length sl0.length pre a0 wS listed a w ad):
 wpOp P ops Q i (fun a' w'=>∃ad',Iv ops qv ad0 bl0.length sl0.length pre a0 wS (listed.setIfInBounds i true) a' w' ad') a w:=by
 obtain⟨hno,o,hoi,hdep⟩:=mem_ready.1 hi;have hil:=(Array.getElem?_eq_some_iff.1 hoi).1;obtain⟨c,hci⟩:∃c,pre[i]? =some c:=⟨pre[i]'(by omega),List.getElem?_eq_getElem _⟩;obtain⟨o',g⟩:=hG.op i c hci;have e:o'=o:=by have:=g.ho;rw[Array.getElem?_toList,hoi] at this;injection this with this;exact this.symm
 subst e;have hkk:=hG.kk i c hci;have hlen:(bl0++List.replicate (c.k-bl0.length) none).length=c.k:=by simp;omega
 have hdl:∀k∈deps o',listed.getD k false=true:=fun k hk=>by
  obtain⟨e,he,rfl⟩:=List.mem_map.1 hk;obtain⟨h1,h2⟩:=List.mem_filter.1 he;exact hdep e (Array.mem_toList_iff.1 h1) h2
 have hA:Agr qv ad (slS c.sl) a o'.op:=fun x hx v hv=>qD0 (fun t e=>by
  subst e
  by_cases hw:∃(k:Nat) (q:Oper),ops[k]? =some q∧q.dst=some t
  · obtain⟨k,q,hk,hqd⟩:=hw
    have hkd:=g.tm t (by simp only[opTm,List.mem_filterMap];exact⟨.tmp t,by simpa using hx,rfl⟩) k q (by simpa using hk) hqd;have hki:=g.dp k hkd;obtain⟨c',hc'⟩:∃c',pre[k]? =some c':=⟨pre[k]'(by omega),List.getElem?_eq_getElem _⟩;rw[hI.sl k c' q t (hdl k hkd) hc' hk hqd,g.st.2 k q c' t hki (by simpa using hk) hqd hc']
  · rw[iv_tm hI ht hs fun k q hk hqd=>hw ⟨k,q,hk,hqd⟩,g.st.1 t fun k q _ hk hqd=>hw ⟨k,q,by simpa using hk,hqd⟩]) hv
 have hw:Region.wanted o' (yielded ops a.tmps)=true:=by simp[Region.wanted,g.hg]
 have hnl:∀m,listed.getD m false=true→m≠i:=fun m hm e=>by
  subst e;have:m<listed.size:=by rw[hI.sz];exact hil
  simp[this] at hno hm;rw[hno] at hm;cases hm
 have hget:∀m,(listed.setIfInBounds i true).getD m false=true→m=i∨listed.getD m false=true:=fun m hm=>by
  by_cases e:m=i
  · exact .inl e
  · rw[getD_set_ne false (Ne.symm e)] at hm;exact .inr hm
 have hset:∀m,listed.getD m false=true→(listed.setIfInBounds i true).getD m false=true:=fun m hm=>by
  rw[getD_set_ne false (Ne.symm (hnl m hm))];exact hm
 have hseti:(listed.setIfInBounds i true).getD i false=true:=by
  have:i<listed.size:=by rw[hI.sz];exact hil
  simp[this]
 have hdp:∀(m:Nat) q,(listed.setIfInBounds i true).getD m false=true→ops[m]? =some q→∀k∈deps q,(listed.setIfInBounds i true).getD k false=true:=fun m q hm hq k hk=>hset k (by
  rcases hget m hm with rfl|hm
  · rw[hoi] at hq;injection hq with hq;subst hq;exact hdl k hk
  · exact hI.dp m q hm hq k hk)
 have hrfl:∀(m:Nat) c' j,(listed.setIfInBounds i true).getD m false=true→pre[m]? =some c'→j∈c'.rf→j<bl0.length∨∃(m:Nat) (c':Rc),(listed.setIfInBounds i true).getD m false=true∧pre[m]? =some c'∧c'.k≤j∧j<c'.k+c'.nw.length:=fun m c' j hm hc' hj=>by
  have up:(j<bl0.length∨∃(m:Nat) (c':Rc),listed.getD m false=true∧pre[m]? =some c'∧c'.k≤j∧j<c'.k+c'.nw.length)→j<bl0.length∨∃(m:Nat) (c':Rc),(listed.setIfInBounds i true).getD m false=true∧pre[m]? =some c'∧c'.k≤j∧j<c'.k+c'.nw.length:=fun h=>h.imp id fun⟨m,c',h1,h2⟩=>⟨m,c',hset m h1,h2⟩;rcases hget m hm with rfl|hm
  · rw[hci] at hc';injection hc' with hc';subst hc'
    rcases g.rf j hj with h|⟨h1,h2⟩|⟨h,m',hm',c',hc',h'⟩
    · exact .inl h
    · exact .inr ⟨m,c,hseti,hci,h1,h2⟩
    · exact up (hI.rf m' c' j (hdl m' hm') hc' h')
  · exact up (hI.rf m c' j hm hc' hj)
 unfold wpOp;simp only[hoi];rw[if_pos hw];rcases g.how with⟨d,gv⟩|⟨T,x,v,b,T',cs,u,gs⟩
 · refine .inl (Oper.wp_mono (fun a' w' q=> ?_) (ex_ok hq hc ho (qJT hH hI.bw hI.ag (c.k-bl0.length)) (hO.trans (hI.bw.mono hO.size)) hA gv.ex))
   obtain⟨ad',hp,rfl⟩:=q;have hag:=hp.ag;have hnew:=hp.new;have hinj:=hp.inj;rw[hlen] at hag hnew hinj;refine⟨fun j=>if c.k≤j∧j<c.k+c.nw.length then ad' j else ad j,?_⟩;generalize hA2:(fun j=>if c.k≤j∧j<c.k+c.nw.length then ad' j else ad j)=ad2;have hin:∀j,c.k≤j→j<c.k+c.nw.length→ad2 j=ad' j:=fun j h1 h2=>by rw[←hA2];exact if_pos ⟨h1,h2⟩
   have hout:∀j,¬(c.k≤j∧j<c.k+c.nw.length)→ad2 j=ad j:=fun j h=>by rw[←hA2];exact if_neg h
   have hdis:∀(m:Nat) c' y,listed.getD m false=true→pre[m]? =some c'→c'.k≤y→y<c'.k+c'.nw.length→ad2 y=ad y:=fun m c' y hm hc' h1 h2=>hout y fun h=>by
    rcases Nat.lt_or_gt_of_ne (hnl m hm) with h3|h3
    · have:=hG.ord m i c' c h3 hc' hci;omega
    · have:=hG.ord i m c c' h3 hci hc';omega
   have hrf:∀(m:Nat) c' j,listed.getD m false=true→pre[m]? =some c'→j∈c'.rf→ad2 j=ad j:=fun m c' j hm hc' hj=>by
    rcases hI.rf m c' j hm hc' hj with h|⟨m',c'',h1,h2,h3,h4⟩
    · exact hout j fun h'=>by omega
    · exact hdis m' c'' j h1 h2 h3 h4
   have hr:∀j∈c.rf,ad' j=ad2 j:=fun j hj=>by
    rcases g.rf j hj with h|⟨h1,h2⟩|⟨h,-⟩
    · rw[hag j (by omega),hout j fun h'=>by omega]
    · exact(hin j h1 h2).symm
    · rw[hag j h,hout j fun h'=>by omega]
   have hput:∀t,(a.put o'.dst (vs qv ad' c.r)).tmps.getD t undef=if t=d then vs qv ad' c.r else a.tmps.getD t undef:=fun t=>by
    rw[gv.hd]
    show(a.tmps.setIfInBounds d _).getD t undef=_
    split
    · rename_i e;subst e;simp[hI.fr.size,gv.dl]
    · rename_i e;simp[Array.getD_eq_getD_getElem?,Ne.symm e]
   refine⟨by simpa using hI.sz,fun j hj=>by rw[hout j fun h'=>by omega];exact hI.ag j hj,hI.bw.trans (hp.bw.mono hI.bw.size),⟨by rw[gv.hd];show(a.tmps.setIfInBounds d _).size=_;simp[hI.fr.size],by rw[gv.hd];exact hI.fr.defers,fun t h=> ?_⟩,fun m c' q d' hm hc' hq hqd=> ?_,fun m c' x T cs hm hc' hx=> ?_,fun m m' c1 c2 x y A B hm hm' hc1 hc2 hx hy e=> ?_,hdp,hrfl⟩
   · rw[hput,if_neg fun e=>h i o' hoi (by rw[gv.hd,e])]
     exact hI.fr.rest t h
   · rw[hput]
     rcases hget m hm with rfl|hm
     · rw[hci] at hc';injection hc' with hc';subst hc'
       rw[hoi] at hq;injection hq with hq;subst hq
       rw[gv.hd] at hqd;injection hqd with hqd
       rw[if_pos hqd.symm];exact qB4 fun j hj=>hr j (List.mem_append.2 (.inl (List.mem_append.2 (.inl hj))))
     · rw[if_neg fun e=>gv.ds m q (by simpa using hq) (hnl m hm) (by rw[hqd,e]),hI.sl m c' q d' hm hc' hq hqd]
       exact qB4 fun j hj=>(hrf m c' j hm hc' (List.mem_append.2 (.inl (List.mem_append.2 (.inl hj))))).symm
   · have hxl:x<c'.nw.length:=(qAj.1 hx).1
     rcases hget m hm with rfl|hm
     · rw[hci] at hc';injection hc' with hc';subst hc'
       obtain⟨h1,h2⟩:=hnew x T cs hx;rw[hin _ (by omega) (by omega)];refine⟨qA8 hI.bw.size h1,cs,?_,.inr ⟨rfl,fun m' c2 z hm' hc2 h=> ?_⟩⟩
       · rw[h2,qBt fun j hj=>hr j (List.mem_append.2 (.inl (List.mem_append.2 (.inr (qDE hx hj)))))]
       · rcases hget m' hm' with rfl|hm'
         · rw[hci] at hc2;injection hc2 with hc2;subst hc2
           rw[gv.ht] at h;cases h
         · obtain⟨o2,g2⟩:=hG.op m' c2 hc2
           rcases g2.how with⟨d2,gv2⟩|⟨_,_,_,b2,_,_,_,gs2⟩
           · rw[gv2.ht] at h;cases h
           · rw[gs2.ht] at h;injection h with h;injection h with h _;subst h
             obtain⟨k,hk,c3,hc3,h4,h5⟩:=gs2.by_;have h6:=(qAj.1 h5).1;have hkm:k=m:=by
              rcases Nat.lt_trichotomy k m with q|q|q
              · have:=hG.ord k m c3 c q hc3 hci;omega
              · exact q
              · have:=hG.ord m k c c3 q hci hc3;omega
             exact hnl k (hI.dp m' o2 hm' (by simpa using g2.ho) k hk) hkm
     · obtain⟨h1,cs',h2,h3⟩:=hI.bk m c' x T cs hm hc' hx
       obtain⟨m2,c2,k1,k2,k3⟩:=fill_rf (L:=fun m=>listed.getD m false=true) hc' hx hm h3;rw[hdis m c' _ hm hc' (by omega) (by omega)];refine⟨h1,cs',?_,?_⟩
       · rw[hp.bw.block _ (Array.getElem?_eq_some_iff.1 h2).1,h2,qBt fun j hj=>(hrf m2 c2 j k1 k2 (k3 j hj)).symm]
       · rcases h3 with⟨m3,c3,l1,l2,l3⟩|⟨l1,l2⟩
         · exact .inl ⟨m3,c3,hset m3 l1,l2,l3⟩
         · refine .inr ⟨l1,fun m3 c3 z hm3 hc3 h=> ?_⟩
           rcases hget m3 hm3 with rfl|hm3
           · rw[hci] at hc3;injection hc3 with hc3;subst hc3
             rw[gv.ht] at h;cases h
           · exact l2 m3 c3 z hm3 hc3 h
   · have hxl:x<c1.nw.length:=(qAj.1 hx).1
     have hyl:y<c2.nw.length:=(qAj.1 hy).1;rcases hget m hm with e1|ho1<;>rcases hget m' hm' with e2|ho2
     · rw[e1,hci] at hc1;rw[e2,hci] at hc2;injection hc1 with hc1;injection hc2 with hc2;subst hc1;subst hc2
       rw[hin _ (by omega) (by omega),hin _ (by omega) (by omega)] at e;rw[hinj x y A B hx hy e]
     · rw[e1,hci] at hc1;injection hc1 with hc1;subst hc1
       rw[hin _ (by omega) (by omega),hdis m' c2 _ ho2 hc2 (by omega) (by omega)] at e;have h1:=(hnew x A.1 A.2 hx).1;obtain⟨-,_,h2,-⟩:=hI.bk m' c2 y B.1 B.2 ho2 hc2 hy;have h2:=(Array.getElem?_eq_some_iff.1 h2).1
       omega
     · rw[e2,hci] at hc2;injection hc2 with hc2;subst hc2
       rw[hin _ (Nat.le_add_right c.k y) (by omega),hdis m c1 _ ho1 hc1 (by omega) (by omega)] at e;have h1:=(hnew y B.1 B.2 hy).1;obtain⟨-,_,h2,-⟩:=hI.bk m c1 x A.1 A.2 ho1 hc1 hx;have h2:=(Array.getElem?_eq_some_iff.1 h2).1
       omega
     · rw[hdis m c1 _ ho1 hc1 (by omega) (by omega),hdis m' c2 _ ho2 hc2 (by omega) (by omega)] at e
       exact hI.ij m m' c1 c2 x y A B ho1 ho2 hc1 hc2 hx hy e
 · obtain⟨m2,hm2,c2,hc2,hb1,hb2⟩:=gs.by_
   have hl2:=hdl m2 hm2;have hbk:c2.k+(b-c2.k)=b:=by omega
   obtain⟨hlo,cs',hg,hf⟩:=hI.bk m2 c2 (b-c2.k) T' cs hl2 hc2 hb2;rw[hbk] at hlo hg hf;have ecs:cs'=cs:=by
    rcases hf with⟨m,c',h1,h2,h3⟩|⟨h,-⟩
    · exact absurd (hG.un m i c' c b _ _ h2 hci h3 gs.ht) (hnl m h1)
    · exact h
   subst ecs;have e1:a.eval x= .pointer (some ⟨ad b,0,none⟩):=hA x (by rw[gs.op];simp[Op.operands]) _ gs.hx;have e2:=hA v (by rw[gs.op];simp[Op.operands]) _ gs.hv;have hst:=run_storeCells_at P (ad b) 0 T' (u.cells.map (lv qv ad)) 0 _ w hg (by simp[gs.ln]) (u_one hq gs.nu);have hrow:(List.take (0+0) (cs'.map (lv qv ad)).toArray.toList++u.cells.map (lv qv ad)++List.drop (0+0+(u.cells.map (lv qv ad)).length) (cs'.map (lv qv ad)).toArray.toList).toArray=(u.cells.map (lv qv ad)).toArray:=by
    simp[gs.ln]
   rw[hrow] at hst;have hsz:(u.cells.map (lv qv ad)).toArray.size=cs'.length:=by simp[gs.ln]
   left
   unfold Oper.wp execOp;rw[gs.op];simp only[e1,e2,Instr.storeAt,Instr.sureAddr,storeVar,Sem.run_bind,Sem.run_pure,Result.andThen_ok,qCx (ad:=ad) hq u,qCN gs.sz,hsz,ne_eq,not_true_eq_false,if_false,hst];simp only[gs.hd,Oper.upon,Act.put];refine⟨ad,by simpa using hI.sz,hI.ag,Below.setRow hI.bw hlo,hI.fr,fun m c' q d' hm hc' hq' hqd=> ?_,fun m c' y T2 cs2 hm hc' hy=> ?_,fun m m' c1 c3 y z A B hm hm' hc1 hc3 hy hz e=> ?_,hdp,hrfl⟩
   · rcases hget m hm with rfl|hm
     · rw[hoi] at hq';injection hq' with hq';subst hq'
       rw[gs.hd] at hqd;cases hqd
     · exact hI.sl m c' q d' hm hc' hq' hqd
   · rcases hget m hm with rfl|hm
     · rw[hci] at hc';injection hc' with hc';subst hc'
       rw[gs.nw] at hy;simp at hy
     · obtain⟨h1,cs3,h2,h3⟩:=hI.bk m c' y T2 cs2 hm hc' hy
       have hyl:=(qAj.1 hy).1;have hbl:=(qAj.1 hb2).1;refine⟨h1,?_⟩
       by_cases e:c'.k+y=b
       · have hmm:m=m2:=by
          rcases Nat.lt_trichotomy m m2 with q|q|q
          · have:=hG.ord m m2 c' c2 q hc' hc2;omega
          · exact q
          · have:=hG.ord m2 m c2 c' q hc2 hc';omega
         subst hmm;rw[hc2] at hc';injection hc' with hc';subst hc'
         have:y=b-c2.k:=by omega
         subst this;rw[hb2] at hy;injection hy with hy;injection hy with hy;injection hy with hy1 hy2
         subst hy1;subst hy2;rw[e];exact⟨u.cells,setRow_heap w _ _ _ _ _ hg,.inl ⟨i,c,hseti,hci,gs.ht⟩⟩
       · refine⟨cs3,?_,?_⟩
         · rw[qDw fun q=>e (by have:=hI.ij m m2 c' c2 y (b-c2.k) _ _ hm hl2 hc' hc2 hy hb2 (by rw[hbk];exact q);omega)]
           exact h2
         · rcases h3 with⟨m3,c3,l1,l2,l3⟩|⟨l1,l2⟩
           · exact .inl ⟨m3,c3,hset m3 l1,l2,l3⟩
           · refine .inr ⟨l1,fun m3 c3 z hm3 hc3 h=> ?_⟩
             rcases hget m3 hm3 with rfl|hm3
             · rw[hci] at hc3;injection hc3 with hc3;subst hc3
               rw[gs.ht] at h;injection h with h;injection h with h _;exact e h.symm
             · exact l2 m3 c3 z hm3 hc3 h
   · rcases hget m hm with q|hm
     · subst q
       rw[hci] at hc1;injection hc1 with hc1;subst hc1
       rw[gs.nw] at hy;simp at hy
     · rcases hget m' hm' with q|hm'
       · subst q
         rw[hci] at hc3;injection hc3 with hc3;subst hc3
         rw[gs.nw] at hz;simp at hz
       · exact hI.ij m m' c1 c3 y z A B hm hm' hc1 hc3 hy hz e
theorem exD_ok (hq:∀k,(qv k).oneCell'=true) (hc:CallOK P w0 qv call) (ho:OrcOK P w0 qv orc) (hG:Gd P orc call ops.toList bl0 sl0 sl nws pre) (hl:pre.length=ops.size) (hH:Held w0.heap.size qv ad0 bl0 wS) (hO:Below w0.heap.size w0 wS)
 (ht:a0.tmps=(sl0.map (vs qv ad0)).toArray) (hs:∀v∈sl0,∀j∈v.refs,j<bl0.length)
 (hend:∀ad a w,Post qv ad0 bl0 nws wS w ad→a.tmps=(sl.map (vs qv ad)).toArray→a.defers=a0.defers→Q .normal a w):wpAny P .any ops Q ops.size (Array.replicate ops.size false) a0 wS:=by
 have hno:∀i,(Array.replicate ops.size false).getD i false=true→False:=fun i h=>by
  simp only[Array.getD_eq_getD_getElem?,Array.getElem?_replicate] at h;split at h<;>simp at h
 refine qEb (fun listed a w=>∃ad,Iv ops qv ad0 bl0.length sl0.length pre a0 wS listed a w ad) (fun listed a w i h hi=> ?_) (fun listed a w h hr=> ?_) _ _ _ _ ⟨ad0,?_⟩ (by simp)
 · obtain⟨ad,hI⟩:=h
   exact iv_step hq hc ho hG hl hH hO ht hs hi hI
 · obtain⟨ad,hI⟩:=h
   have hall:∀i,i<ops.size→listed.getD i false=true:=by
    intro i
    induction i using Nat.strongRecOn with
    |ind i ih=>
     intro hi
     cases hli:listed.getD i false with
     |true=>rfl
     |false=>
      exfalso;obtain⟨c,hci⟩:∃c,pre[i]? =some c:=⟨pre[i]'(by omega),List.getElem?_eq_getElem _⟩;obtain⟨o,g⟩:=hG.op i c hci;have hm:i∈Region.ready .any ops listed:=by
       rw[mem_ready];refine⟨?_,o,by simpa using g.ho,fun e he hb=> ?_⟩
       · have:i<listed.size:=by rw[hI.sz];exact hi
         simp[this] at hli⊢;exact hli
       · have:=g.dp e.on (List.mem_map.2 ⟨e,List.mem_filter.2 ⟨Array.mem_toList_iff.2 he,hb⟩,rfl⟩)
         exact ih _ this (by omega)
      rw[hr] at hm
      cases hm
   have hL:∀(i:Nat) c,pre[i]? =some c→listed.getD i false=true:=fun i c hc=>hall i (by have:=qCk hc;omega);have hat:∀(j:Nat) A,nws[j]? =some (some A)→∃(i:Nat) (c:Rc) (x:Nat) (cs:List SL),pre[i]? =some c∧c.nw[x]? =some (some (A.1,cs))∧c.k+x=bl0.length+j∧Fill pre (fun _=>True) (bl0.length+j) cs A.2:=hG.nw;refine hend ad a w ⟨hI.ag,hI.bw,fun j T cs hj=> ?_,fun i j A B hi hj e=> ?_⟩ ?_ hI.fr.defers
   · obtain⟨i,c,x,cs1,h1,h2,h3,h4⟩:=hat j _ hj
     obtain⟨k1,cs2,k2,k3⟩:=hI.bk i c x T cs1 (hL i c h1) h1 h2;rw[h3] at k1 k2 k3;refine⟨k1,?_⟩;have e:cs2=cs:=by
      rcases k3 with⟨m,c2,l1,l2,l3⟩|⟨l1,l2⟩<;>rcases h4 with⟨m',c3,-,l4,l5⟩|⟨l4,l5⟩
      · have:=hG.un m m' c2 c3 _ _ _ l2 l4 l3 l5
        subst this;rw[l2] at l4;injection l4 with l4;subst l4
        rw[l3] at l5;injection l5 with l5;injection l5
      · exact absurd l3 (l5 m c2 _ trivial l2)
      · exact absurd l5 (l2 m' c3 _ (hL m' c3 l4) l4)
      · exact l1.trans l4.symm
     rw[k2,e]
   · obtain⟨i1,c1,x1,_,h1,h2,h3,-⟩:=hat i _ hi
     obtain⟨i2,c2,x2,_,h4,h5,h6,-⟩:=hat j _ hj;have:=hI.ij i1 i2 c1 c2 x1 x2 _ _ (hL i1 c1 h1) (hL i2 c2 h4) h1 h4 h2 h5 (by rw[h3,h6];exact e)
     omega
   · apply Array.ext
     · simp[hI.fr.size,hG.ln]
     · intro t h1 h2
       have hv:a.tmps[t]=a.tmps.getD t undef:=by simp[h1]
       have ht2:t<sl.length:=by simpa using h2
       have hv2:(sl.map (vs qv ad)).toArray[t]=vs qv ad (slS sl t):=by simp[slS,ht2]
       rw[hv,hv2]
       by_cases hw:∃(k:Nat) (q:Oper),ops[k]? =some q∧q.dst=some t
       · obtain⟨k,q,hk,hqd⟩:=hw
         have hkl:=(Array.getElem?_eq_some_iff.1 hk).1;obtain⟨c,hc⟩:∃c,pre[k]? =some c:=⟨pre[k]'(by omega),List.getElem?_eq_getElem _⟩;rw[hI.sl k c q t (hL k c hc) hc hk hqd,hG.st.2 k q c t (qCk hc) (by simpa using hk) hqd hc]
       · rw[iv_tm hI ht hs fun k q hk hqd=>hw ⟨k,q,hk,hqd⟩,hG.st.1 t fun k q _ hk hqd=>hw ⟨k,q,by simpa using hk,hqd⟩]
 · exact⟨by simp,fun _ _=>rfl,qAk _ _,⟨by rw[ht];simp,rfl,fun t _=>rfl⟩,fun i c o d h=>(hno i h).elim,fun i c x T cs h=>(hno i h).elim,fun i m c c' x y A B h=>(hno i h).elim,fun i o h=>(hno i h).elim,fun i c j h=>(hno i h).elim⟩
end
end Go.Proofs.YtelceoecekfamaaGreat
