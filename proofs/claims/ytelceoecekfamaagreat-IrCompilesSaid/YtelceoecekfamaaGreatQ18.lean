/-
Vw Vdn Vrx Vrw Vmk Vcl Kjn
-/
import Derived.Test.YtelceoecekfamaaGreatQ11
import Derived.Test.YtelceoecekfamaaGreatQ17
import Derived.Lib.QuietBelow
set_option linter.unusedSimpArgs false
set_option linter.unusedVariables false
set_option maxRecDepth 100000
set_option maxHeartbeats 1000000
namespace Go.Proofs.YtelceoecekfamaaGreat
open Go.RowKit
variable {Z:Nat→Option Nat}{g k:Nat}{l:List Shape}{n0 p q:Nat}{r:List (Bool×Value)}{t u:List Typ}{w:World}{ws:List Bool}{x y:Typ}
structure Wk (n0 g p q:Nat) (Z:Nat→Option Nat) (w:World) (l:List Shape) (ws:List Bool) (r:List (Bool×Value)):Prop where
 zg:Z g=some 0
 zp:Z p=some 1
 zq:Z q=some 2
 low:∀b,Z b≠none→n0≤b∧b<w.heap.size
 box:Blk w g 102 #[.slice (some ⟨p,0,none⟩) l.length l.length,.slice (some ⟨q,0,none⟩) l.length l.length]
 row:w.ownsRow n0 49 2 (.slice (some ⟨p,0,none⟩) l.length l.length) l.length (CS2 r)
 wai:w.ownsRow n0 4 1 (.slice (some ⟨q,0,none⟩) l.length l.length) l.length (Bl ws)
 stk:∀(k:Nat) (x:Shape),l[k]? =some x→∃v,r[k]? =some (x.1,v)∧Stk n0 w v x.2∧(0<x.2.length→∀b,v.ownBlock=some b→Z b=some (k+3))
theorem Wk.lenr (h:Wk n0 g p q Z w l ws r):r.length=l.length:=by
 have:=h.row.1;rw[qBe] at this
 omega
theorem Wk.lenw (h:Wk n0 g p q Z w l ws r):ws.length=l.length:=by
 have:=h.wai.1;rw[qDP] at this
 omega
theorem Wk.low0 (h:Wk n0 g p q Z w l ws r):∀i,i<n0→Z i=none:=fun i hi=>by
 cases e:Z i with
 |none=>rfl
 |some k=>exact absurd (h.low i (by rw[e];simp)).1 (by omega)
theorem Wk.below {w':World} (h:Wk n0 g p q Z w l ws r) (hb:Below w.heap.size w w'):Wk n0 g p q Z w' l ws r:=by
 have hz:∀b,Z b≠none→w'.heap[b]? =w.heap[b]? :=fun b hb2=>hb.block b (h.low b hb2).2;refine⟨h.zg,h.zp,h.zq,fun b hb2=>⟨(h.low b hb2).1,qAh (h.low b hb2).2 hb.size⟩,(hz g (by rw[h.zg];simp)).trans h.box,qBk h.row (hz p (by rw[h.zp];simp)),qBk h.wai (hz q (by rw[h.zq];simp)),fun k x hx=> ?_⟩;obtain⟨v,h1,h2,h3⟩:=h.stk k x hx;exact⟨v,h1,h2.keep fun h0 b hb2=>hz b (by rw[h3 h0 b hb2];simp),h3⟩
theorem Wk.cells (h:Wk n0 g p q Z w l ws r) {x:Shape} (hx:l[k]? =some x):
 ∃A c,r[k]? =some (x.1,.slice A x.2.length c)∧w.cell? ⟨p,k*2,none⟩=some (.bool x.1)∧w.cell? ⟨p,k*2+1,none⟩=some (.slice A x.2.length c)∧Stk n0 w (.slice A x.2.length c) x.2∧x.2.length≤c∧c≤maxLen∧(A= .none→c=0):=by
 obtain⟨v,h1,h2,-⟩:=h.stk k x hx;obtain⟨A,c,rfl,h3,h4,h5⟩:=h2.shape;have hk:=(qAj.1 hx).1;exact⟨A,c,h1,(h.row.cellAt (k*2) (by omega)).trans (qES h1),(h.row.cellAt (k*2+1) (by omega)).trans (qER h1),h2,h3,h4,h5⟩
theorem Wk.wait (h:Wk n0 g p q Z w l ws r) (k:Nat) (b:Bool):Wk n0 g p q Z (w.setCell ⟨q,k,.none⟩ (.bool b)) l (ws.set k b) r:=by
 have hz:∀i,i≠q→(w.setCell ⟨q,k,.none⟩ (.bool b)).heap[i]? =w.heap[i]? :=fun i hi=>qA2 w ⟨q,k,.none⟩ (.bool b) i hi;have hne:∀i j,Z i=some j→j≠2→i≠q:=fun i j hi hj e=>by rw[e,h.zq] at hi;injection hi with hi;omega
 refine⟨h.zg,h.zp,h.zq,fun i hi=>by simpa[World.setCell] using h.low i hi,(hz g (hne g 0 h.zg (by omega))).trans h.box,qBk h.row (hz p (hne p 1 h.zp (by omega))),?_,fun j x hx=> ?_⟩
 · have:=(h.wai.stored k (.bool b)).1
   rwa [Bl_set] at this
 · obtain⟨v,h1,h2,h3⟩:=h.stk j x hx
   exact⟨v,h1,h2.keep fun h0 i hi=>hz i (hne i (j+3) (h3 h0 i hi) (by omega)),h3⟩
theorem Wk.seen (h:Wk n0 g p q Z w l ws r) (hk:k<l.length) {v:Value} (hv:Stk n0 w v t) (hn:0<t.length→∀b,v.ownBlock=some b→Z b= .none):
 ∃Z',(∀b,Z' b≠Z b→0<t.length∧v.ownBlock=some b)∧Wk n0 g p q Z' ((w.setCell ⟨p,k*2,.none⟩ (.bool true)).setCell ⟨p,k*2+1,.none⟩ v) (l.set k (true,t)) ws (r.set k (true,v)):=by
 have hz:∀i,i≠p→((w.setCell ⟨p,k*2,.none⟩ (.bool true)).setCell ⟨p,k*2+1,.none⟩ v).heap[i]? =w.heap[i]? :=fun i hi=>(qA2 _ ⟨p,k*2+1,.none⟩ v i hi).trans (qA2 w ⟨p,k*2,.none⟩ (.bool true) i hi);have hp2:=(h.low p (by rw[h.zp];simp)).2;obtain⟨x,hx⟩:∃x,l[k]? =some x:=⟨_,List.getElem?_eq_getElem hk⟩;obtain⟨v0,hr0,-,-⟩:=h.stk k x hx;have hrow:((w.setCell ⟨p,k*2,.none⟩ (.bool true)).setCell ⟨p,k*2+1,.none⟩ v).ownsRow n0 49 2 (.slice (some ⟨p,0,.none⟩) l.length l.length) l.length (CS2 (r.set k (true,v))):=by
  have h1:=(h.row.stored (k*2) (.bool true)).1;have h2:=(h1.stored (k*2+1) v).1;have hkr:k<r.length:=by rw[h.lenr];exact hk
  have hr1:(r.set k (true,v0))[k]? =some (true,v0):=by rw[List.getElem?_set_self hkr]
  rw[qEQ hr0,qEP hr1,List.set_set] at h2;exact h2
 have hne:∀i j,Z i=some j→j≠1→i≠p:=fun i j hi hj e=>by rw[e,h.zp] at hi;injection hi with hi;omega
 have hsz:((w.setCell ⟨p,k*2,.none⟩ (.bool true)).setCell ⟨p,k*2+1,.none⟩ v).heap.size=w.heap.size:=by simp[World.setCell]
 rcases Nat.eq_zero_or_pos t.length with h0|h0
 · refine⟨Z,fun b hb=>absurd rfl hb,h.zg,h.zp,h.zq,fun b hb=>by rw[hsz];exact h.low b hb,?_,by simpa using hrow,?_,fun j y hy=> ?_⟩
   · exact zm
   · exact zd
   · rw[List.getElem?_set] at hy
     by_cases e:k=j
     · subst e
       rw[if_pos rfl,if_pos hk] at hy;injection hy with hy;subst hy;refine⟨v,by rw[List.getElem?_set_self (by rw[h.lenr];exact hk)],hv.keep fun h1=>absurd (show 0<t.length from h1) (by omega),fun h1=>absurd (show 0<t.length from h1) (by omega)⟩
     · rw[if_neg e] at hy
       obtain⟨u,h1,h2,h3⟩:=h.stk j y hy;exact⟨u,by rw[List.getElem?_set_ne e];exact h1,h2.keep fun h4 i hi=>hz i (hne i (j+3) (h3 h4 i hi) (by omega)),h3⟩
 · obtain⟨b,hb,hb1,hb2⟩:=hv.own h0
   have hzb:=hn h0 b hb;have hnb:∀i,Z i≠.none→i≠b:=fun i hi e=>hi (by rw[e];exact hzb);refine⟨fun i=>if i=b then some (k+3) else Z i,fun i hi=>⟨h0,?_⟩,?_,?_,?_,fun i hi=> ?_,?_,by simpa using hrow,?_,fun j y hy=> ?_⟩
   · by_cases e:i=b
     · rw[e];exact hb
     · simp only[if_neg e] at hi;exact absurd rfl hi
   · simp only[if_neg (hnb g (by rw[h.zg];simp))];exact h.zg
   · simp only[if_neg (hnb p (by rw[h.zp];simp))];exact h.zp
   · simp only[if_neg (hnb q (by rw[h.zq];simp))];exact h.zq
   · rw[hsz]
     by_cases e:i=b
     · rw[e];exact⟨hb1,hb2⟩
     · simp only[if_neg e] at hi;exact h.low i hi
   · exact zm
   · exact zd
   · rw[List.getElem?_set] at hy
     by_cases e:k=j
     · subst e
       rw[if_pos rfl,if_pos hk] at hy;injection hy with hy;subst hy;refine⟨v,by rw[List.getElem?_set_self (by rw[h.lenr];exact hk)],hv.keep fun h1 i hi=>hz i ?_,fun h1 i hi=> ?_⟩
       · rw[hb] at hi;injection hi with hi;subst hi
         exact fun e=>by rw[e,h.zp] at hzb;cases hzb
       · rw[hb] at hi;injection hi with hi;subst hi
         simp
     · rw[if_neg e] at hy
       obtain⟨u,h1,h2,h3⟩:=h.stk j y hy;refine⟨u,by rw[List.getElem?_set_ne e];exact h1,h2.keep fun h4 i hi=>hz i (hne i (j+3) (h3 h4 i hi) (by omega)),fun h4 i hi=> ?_⟩;have h5:=h3 h4 i hi;simp only[if_neg (hnb i (by rw[h5];simp))];exact h5
theorem Wk.give (h:Wk n0 g p q Z w l ws r) {s:List Typ} (hx:l[k]? =some (true,s)) {b n c:Nat} (hr:r[k]? =some (true,.slice (some ⟨b,0,.none⟩) n c)) {j:Nat} {t:Typ} (hj:j<s.length) (ht:I64 t.1∧I64 t.2):
 Wk n0 g p q Z ((w.setCell ⟨b,j*2,.none⟩ (.int .i64 t.1)).setCell ⟨b,j*2+1,.none⟩ (.int .i64 t.2)) (l.set k (true,s.set j t)) ws r∧Z b=some (k+3):=by
 have hk:=(qAj.1 hx).1;obtain⟨v,hr2,hs,hzb⟩:=h.stk k _ hx;rw[hr] at hr2;simp only[Option.some.injEq,Prod.mk.injEq,true_and] at hr2;subst hr2;have hb:=hzb (show 0<s.length by omega) b rfl;rcases hs with⟨e,_⟩|⟨_,ha,b',c',e,h1,h2,ho⟩
 · rw[show s=[] from e] at hj;simp at hj
 simp only[Value.slice.injEq,Option.some.injEq,Addr.mk.injEq,and_true,true_and] at e;obtain⟨rfl,rfl,rfl⟩:=e;have hz:∀i,i≠b→((w.setCell ⟨b,j*2,.none⟩ (.int .i64 t.1)).setCell ⟨b,j*2+1,.none⟩ (.int .i64 t.2)).heap[i]? =w.heap[i]? :=fun i hi=>(qA2 _ ⟨b,j*2+1,.none⟩ _ i hi).trans (qA2 w ⟨b,j*2,.none⟩ _ i hi);have hne:∀i m,Z i=some m→m≠k+3→i≠b:=fun i m hi hm e=>by rw[e,hb] at hi;injection hi with hi;omega
 have hsz:((w.setCell ⟨b,j*2,.none⟩ (.int .i64 t.1)).setCell ⟨b,j*2+1,.none⟩ (.int .i64 t.2)).heap.size=w.heap.size:=by simp[World.setCell]
 refine⟨⟨h.zg,h.zp,h.zq,fun i hi=>by rw[hsz];exact h.low i hi,?_,?_,?_,fun m y hy=> ?_⟩,hb⟩
 · exact zm
 · rw[List.length_set];exact qBk h.row (hz p (hne p 1 h.zp (by omega)))
 · exact zd
 · rw[List.getElem?_set] at hy
   by_cases e:k=m
   · subst e
     rw[if_pos rfl,if_pos hk] at hy;injection hy with hy;subst hy;refine⟨_,hr,.inr ⟨by simpa using(show 0<s.length by omega),?_,b,c,by simp,by simpa using h1,h2,?_⟩,fun _=>by intro i hi;simp only[Value.ownBlock,Option.some.injEq] at hi;subst hi;exact hb⟩
     · intro y hy
       rcases List.mem_or_eq_of_mem_set hy with hy|hy
       · exact ha y hy
       · subst hy;exact ht
     · obtain⟨t0,ht0⟩:∃t0,s[j]? =some t0:=⟨_,List.getElem?_eq_getElem hj⟩
       have k1:=(ho.stored (j*2) (.int .i64 t.1)).1;have k2:=(k1.stored (j*2+1) (.int .i64 t.2)).1;have hs1:(s.set j (t.1,t0.2))[j]? =some (t.1,t0.2):=by rw[List.getElem?_set_self hj]
       rw[qHZ ht0,qHY hs1,List.set_set] at k2;simpa using k2
   · rw[if_neg e] at hy
     obtain⟨u,q1,q2,q3⟩:=h.stk m y hy;exact⟨u,q1,q2.keep fun h4 i hi=>hz i (hne i (m+3) (q3 h4 i hi) (by omega)),q3⟩
theorem Wk.done (h:Wk n0 g p q Z w l ws r):(rowU fun b=>∃k,Z b=some (k+3)).R (fun b=>n0≤b∧b<w.heap.size) w [.slice (some ⟨p,0,none⟩) l.length l.length] l:=by
 have hp:=h.low p (by rw[h.zp];simp);have hlm:l.length≤maxLen:=by
  rcases h.row.2 with⟨e,_⟩|⟨g',cap,cur,e,_,_,hnc,hcm,_⟩
  · cases e
  · omega
 refine⟨_,_,rfl,qAi _,hlm,fun _=>⟨_,rfl,hp,fun k x hx=> ?_⟩,?_⟩
 · obtain⟨A,c,hr,h0,h1,hst,h2,h3,h4⟩:=h.cells hx
   have e:∀i,(⟨p,0,none⟩:Addr).add i=⟨p,i,none⟩:=fun i=>by unfold Addr.add;split<;>simp_all
   refine⟨[.bool x.1,.slice A x.2.length c],fun i u hu=> ?_,_,rfl,A,c,rfl,h2,h3,h4,hst.sq,fun hpos=> ?_⟩
   · rw[e]
     match i,hu with
     |0,hu=>simp at hu;subst hu;exact h0
     |1,hu=>simp at hu;subst hu;exact h1
     |i+2,hu=>simp at hu
   · obtain⟨v,hv1,hv2,hv3⟩:=h.stk k x hx
     rw[hr] at hv1;simp only[Option.some.injEq,Prod.mk.injEq,true_and] at hv1;subst hv1;rcases hst with⟨e,-⟩|⟨_,_,b,c',e,_,_,ho⟩
     · rw[e] at hpos;simp at hpos
     · simp only[Value.slice.injEq,true_and] at e
       obtain⟨rfl,rfl⟩:=e;have hl:=ho.lt b rfl;rcases ho.2 with⟨e,_⟩|⟨g',cap,cur,e,_,hb,hnc,_,hcs,_⟩
       · cases e
       · simp only[Value.slice.injEq,Option.some.injEq,Addr.mk.injEq,and_true,true_and] at e
         obtain⟨rfl,rfl⟩:=e;exact⟨b,cur,rfl,hl,⟨k,hv3 hpos b rfl⟩,hb,by omega⟩
 · intro a e
   injection e with e;subst e;rintro⟨k,hk⟩;simp only at hk;rw[h.zp] at hk;injection hk with hk
   omega
theorem qDr {α:Type} {l:List α} {x:α} (h:l[k]? =some x):l.set k x=l:=by
 obtain⟨hk,rfl⟩:=qAj.1 h;exact List.set_getElem_self hk
def mixJ (u t:List Typ) (k:Nat):List Typ:=joinL (u.take k) (t.take k)++u.drop k
theorem qDC (u t:List Typ):mixJ u t 0=u:=by simp[mixJ,joinL]
theorem qFo (h:u.length=t.length):mixJ u t t.length=joinL u t:=by
 unfold mixJ;rw[qAn (by omega),qAn (by omega),List.drop_eq_nil_of_le (by omega),List.append_nil]
theorem qGr {a b:List Typ} (h:a.length=b.length) (x y:Typ):joinL (a++[x]) (b++[y])=joinL a b++[joinT x y]:=by
 induction a generalizing b with
 |nil=>
  cases b with
  |nil=>rfl
  |cons _ _=>simp at h
 |cons z a ih=>
  cases b with
  |nil=>simp at h
  |cons z' b=>simp only[List.cons_append,joinL,ih qy]
theorem takeJ (hx:u[k]? =some x) (hy:t[k]? =some y):joinL (u.take (k+1)) (t.take (k+1))=joinL (u.take k) (t.take k)++[joinT x y]:=by
 obtain⟨h1,rfl⟩:=qAj.1 hx;obtain⟨h2,rfl⟩:=qAj.1 hy;rw[qAp h1,qAp h2];exact qGr (by rw[List.length_take,List.length_take];omega) _ _
theorem qFt (h1:k≤u.length) (h2:k≤t.length):(joinL (u.take k) (t.take k)).length=k:=by
 rw[qDG (by rw[List.length_take,List.length_take];omega),List.length_take]
 omega
theorem qI8 (h1:k≤u.length) (h2:k≤t.length):(mixJ u t k).length=u.length:=by
 unfold mixJ;rw[List.length_append,qFt h1 h2,List.length_drop]
 omega
theorem qD6 (hx:u[k]? =some x) (hy:t[k]? =some y):(mixJ u t k)[k]? =some x:=by
 have h1:=(qAj.1 hx).1;have h2:=(qAj.1 hy).1;unfold mixJ;rw[List.getElem?_append_right (by rw[qFt (by omega) (by omega)];exact qAi _),qFt (by omega) (by omega),List.getElem?_drop];simpa using hx
theorem qDD (hx:u[k]? =some x) (hy:t[k]? =some y):mixJ u t (k+1)=(mixJ u t k).set k (joinT x y):=by
 have h1:=(qAj.1 hx).1;have h2:=(qAj.1 hy).1;unfold mixJ;rw[takeJ hx hy,List.set_append_right _ _ (by rw[qFt (by omega) (by omega)];exact qAi _),qFt (by omega) (by omega),Nat.sub_self,List.drop_eq_getElem_cons h1,List.set_cons_zero,List.append_assoc]
 rfl
theorem qEi (hx:u[k]? =some x) (hy:t[k]? =some y) (h:joinT x y=x):mixJ u t (k+1)=mixJ u t k:=by
 rw[qDD hx hy,h];exact qDr (qD6 hx hy)
theorem qHN (h1:k≤u.length) (h2:k≤t.length):mixJ u t k≠u↔joinL (u.take k) (t.take k)≠u.take k:=by
 unfold mixJ
 constructor
 · intro h e;apply h;rw[e,List.take_append_drop]
 · intro h e
   apply h
   have:=congrArg (List.take k) e
   rwa [List.take_append_of_le_length (by rw[qFt h1 h2];exact qAi _),qAn (by rw[qFt h1 h2];exact qAi _)] at this
theorem qH1 (hx:u[k]? =some x) (hy:t[k]? =some y) (h:mixJ u t k≠u∨joinT x y≠x):mixJ u t (k+1)≠u:=by
 have h1:=(qAj.1 hx).1;have h2:=(qAj.1 hy).1;rw[qHN (by omega) (by omega),takeJ hx hy];rw[qHN (by omega) (by omega)] at h;obtain⟨_,rfl⟩:=qAj.1 hx;rw[qAp h1];intro e;have:=List.append_inj e (by rw[qFt (by omega) (by omega),List.length_take];omega);rcases h with h|h
 · exact h this.1
 · exact h (by simpa using this.2)
theorem qHW {ts:List Typ} (h:A64 ts) (hx:ts[k]? =some x):I64 x.1∧I64 x.2:=h x (qAl hx)
theorem qFx (hx:I64 x.1∧I64 x.2) (hy:I64 y.1∧I64 y.2):I64 (joinT x y).1∧I64 (joinT x y).2:=by
 rcases qBf x y with⟨_,e⟩|⟨_,_,e⟩|⟨_,_,_,_,e⟩|⟨_,_,_,e⟩<;>rw[e]
 · exact hy
 · exact hx
 · exact⟨⟨by decide,by decide⟩,⟨by decide,by decide⟩⟩
 · exact⟨⟨by decide,by decide⟩,⟨by decide,by decide⟩⟩
def Rch (l:List Shape) (ws:List Bool) (pc:Nat) (t:List Typ) (l':List Shape) (ws':List Bool):Prop:=
 (∃s,l[pc]? =some (false,s)∧l'=l.set pc (true,t)∧ws'=ws.set pc true)∨(∃u,l[pc]? =some (true,u)∧u.length=t.length∧l'=l.set pc (true,joinL u t)∧((joinL u t=u∧ws'=ws)∨(joinL u t≠u∧ws'=ws.set pc true)))
def Reached (n0 g p q:Nat) (Z:Nat→Option Nat) (w:World) (l:List Shape) (ws:List Bool) (pc:Nat) (t:List Typ) (e:Ending) (w':World):Prop:=
 Turn Z w w'∧((e= .returned (.bool false)∧∃u,l[pc]? =some (true,u)∧u.length≠t.length)∨
  (e= .returned (.bool true)∧∃Z' r' l' ws',Wk n0 g p q Z' w' l' ws' r'∧(∀b,b<w.heap.size→Z' b=Z b)∧Rch l ws pc t l' ws'))
theorem qDL {v:World} {b t:Nat} {c:Array Value} (h:Blk v b t c):Blk v.drew b t c:=h
theorem qHO (n:Nat):(madeCells #[.bool false,.slice none 0 0] (n*2)).toList=CS2 (List.replicate n (false,.slice none 0 0)):=by
 apply List.ext_getElem?
 intro i
 by_cases hi:i<n*2
 · have hj:i / 2<n:=by omega
   have hr:(List.replicate n ((false,.slice none 0 0):Bool×Value))[i / 2]? =some (false,.slice none 0 0):=by simp[hj]
   rcases Nat.mod_two_eq_zero_or_one i with e|e
   · have h0:=qES hr
     rw[show i / 2*2=i by omega] at h0;rw[h0];simp[madeCells,hi,e]
   · have h0:=qER hr
     rw[show i / 2*2+1=i by omega] at h0;rw[h0];simp[madeCells,hi,e]
 · rw[List.getElem?_eq_none (by simp[madeCells];omega),List.getElem?_eq_none (by rw[qBe];simp;omega)]
theorem qIf:(Tryz.prog.info? 49).map (fun i=>(i.zero,i.size,i.bytes))=some (some (.agg #[.bool false,.slice none 0 0]),2,32):=by kernel_rfl
theorem qCt (n:Nat) (hn:n≤1000) (w:World):(Instr.makeSlice 50 (.int .i64 (n:Nat)) (.int .i64 (n:Nat))).run Tryz.prog w= .ok (.slice (some ⟨w.heap.size,0,none⟩) n n) (w.alloc (.cells (madeCells #[.bool false,.slice none 0 0] (n*2)) 49)):=by
 obtain⟨i,hi,hz,hs,hb⟩:=info_parts qIf;have:=run_make (P:=Tryz.prog) w 50 49 i _ Tryz.underlying50 hi hz .i64 .i64 (n:Int) (n:Int) (by omega) (Int.le_refl _) (by rw[hb];omega) (by omega);rw[hs,Int.toNat_natCast] at this;exact this
theorem qHJ {n:Nat} {v:Value} {ts:List Typ} (h:w.ownsRow n0 41 2 v n (T2 ts)) (ha:A64 ts) (hl:ts.length=n):Stk n0 w v ts:=by
 subst hl;rcases Nat.eq_zero_or_pos ts.length with h0|h0
 · rcases h.2 with⟨rfl,_⟩|⟨g,cap,cur,rfl,_,_,hnc,hcm,_,_⟩
   · exact .inl ⟨qA4 h0,none,0,rfl,by simp[maxLen],fun _=>rfl⟩
   · rw[h0]
     exact .inl ⟨qA4 h0,_,cap,rfl,hcm,fun h=>by cases h⟩
 · have h2:=h
   rcases h.2 with⟨_,h1⟩|⟨g,cap,cur,rfl,_,_,hnc,hcm,_,_⟩
   · omega
   · exact .inr ⟨h0,ha,g,cap,rfl,hnc,hcm,h2⟩
theorem qIJ (A:Option Addr) (n c:Nat) (ts:List Typ) (w:World) (hl:ts.length=n) (hR:Sq typL (·<w.heap.size) w A ts) (hn:n≤1000):
 Calls Tryz.prog 94 #[.slice A n c] w fun e w'=>∃v,e= .returned v∧Stk w.heap.size w' v ts∧Below w.heap.size w w':=by
 have qq:∀(w:World) (a:Option Addr) (n c n' c':Nat),(binOp .eql 39 (.slice a n c) (.slice none n' c')).run Tryz.prog w= .ok (.bool a.isNone) w:=fun w a n c n' c'=>Lib.run_eql_slice_nil w _ _ a n c n' c' Tryz.underlying39;have HL:=qAg hl;have HR:=qAg hR;have HA:=qAg hR.a64;have HOE:=qAg (qBa w);rcases A with _|a
 · have h0:ts=[]:=by
    cases ts with
    |nil=>rfl
    |cons t ts=>obtain⟨a,e,-⟩:=hR (by simp);cases e
   clear hl hR
   go_enter Tryz.func94,Tryz.ntmps94
   go_wp2_with fail
   go_ret;exact⟨_,rfl,.inl ⟨h0,none,0,rfl,by simp[maxLen],fun _=>rfl⟩,qAk _ _⟩
 · clear hl hR
   go_enter Tryz.func94,Tryz.ntmps94
   go_wp2_with (at_builtin
                refine qBD _ rfl (.tmp 5) (.tmp 6) rfl w.heap.size (.slice (some ⟨w.heap.size,0,none⟩) 0 0) 0 [] rfl HOE.out (some a) n c ts rfl HL.out (·<w.heap.size) (HR.out.below (qAo w _) (qAi _)) (by omega) (by simp) ?_;intro v2 w2 hown2 hg2 _;have HO2:=qAg hown2;have HB2:=qAg ((qAo w _).grown hg2 (by simp) (fun i hi=>(HOE.out.lt i hi).1));clear hown2 hg2)
   go_ret;exact⟨_,rfl,qHJ (by simpa using HO2.out) HA.out HL.out,HB2.out⟩
theorem kjoin (a b c d:Int) (w:World):Calls Tryz.prog 95 #[.agg #[.int .i64 a,.int .i64 b],.agg #[.int .i64 c,.int .i64 d]] w fun e w'=>e= .returned (.agg #[.int .i64 (joinK a b c d),.int .i64 (joinN a b c d)])∧Below w.heap.size w w':=by
 have S1:=qAg (fun w=>ksub a b c d w);have S2:=qAg (fun w=>ksub c d a b w);have R1:=qAg (fun w=>kref a b w);have R2:=qAg (fun w=>kref c d w)
 cases h1:subB a b c d
 · cases h2:subB c d a b
   · cases h3:refB a
     · rw[show joinK a b c d=8 by simp[joinK,h1,h2,h3],show joinN a b c d=0 by simp[joinN,h1,h2]]
       replace S1:=qAg qn;replace S2:=qAg qw;replace R1:=qAg zC;clear h1 h2 h3
       go_enter Tryz.func95,Tryz.ntmps95
       go_wp2_with (first|(go_at_call 104;with_reducible refine(S1.out _).mono ?_;rintro e w1 ⟨rfl,hb1⟩;obtain⟨hc1,hf1⟩:=qBB hb1;have hz1:w.heap.size+2<w1.heap.size:=by {have:=hb1.size;simp at this;omega};have hy1:w.heap.size+1<w1.heap.size:=(by omega);have hx1:w.heap.size<w1.heap.size:=by omega)|(go_at_call 104;with_reducible refine(S2.out _).mono ?_;rintro e w2 ⟨rfl,hb2⟩;obtain⟨hc2,hf2⟩:=qBB hb2;have hz2:w.heap.size+2<w2.heap.size:=by {have:=hb2.size;omega};have hy2:w.heap.size+1<w2.heap.size:=(by omega);have hx2:w.heap.size<w2.heap.size:=by omega)|(go_at_call 112;with_reducible refine(R1.out _).mono ?_;rintro e w3 ⟨rfl,hb3⟩;obtain⟨hc3,hf3⟩:=qBB hb3;have hz3:w.heap.size+2<w3.heap.size:=by {have:=hb3.size;omega};have hy3:w.heap.size+1<w3.heap.size:=(by omega);have hx3:w.heap.size<w3.heap.size:=by omega))
       exact bodyPost_ret (v:= .agg #[.int .i64 8,.int .i64 0]) (by simp[results,Tryz.results95,go_sem,hc1,hz1,hy1,hx1,hc2,hz2,hy2,hx2,hc3,hz3,hy3,hx3]) rfl ⟨rfl,((((((((qAk _ _).alloc (qAi _) _).alloc (by simp) _).alloc qc _).trans (hb1.mono qK)).trans (hb2.mono (by omega))).trans (hb3.mono (by omega))).setCell qc _).setCell qc _⟩
     · cases h4:refB c
       · rw[show joinK a b c d=8 by simp[joinK,h1,h2,h4],show joinN a b c d=0 by simp[joinN,h1,h2]]
         replace S1:=qAg qn;replace S2:=qAg qw;replace R1:=qAg zC;replace R2:=qAg zk;clear h1 h2 h3 h4
         go_enter Tryz.func95,Tryz.ntmps95
         go_wp2_with (first|(go_at_call 104;with_reducible refine(S1.out _).mono ?_;rintro e w1 ⟨rfl,hb1⟩;obtain⟨hc1,hf1⟩:=qBB hb1;have hz1:w.heap.size+2<w1.heap.size:=by {have:=hb1.size;simp at this;omega};have hy1:w.heap.size+1<w1.heap.size:=(by omega);have hx1:w.heap.size<w1.heap.size:=by omega)|(go_at_call 104;with_reducible refine(S2.out _).mono ?_;rintro e w2 ⟨rfl,hb2⟩;obtain⟨hc2,hf2⟩:=qBB hb2;have hz2:w.heap.size+2<w2.heap.size:=by {have:=hb2.size;omega};have hy2:w.heap.size+1<w2.heap.size:=(by omega);have hx2:w.heap.size<w2.heap.size:=by omega)|(go_at_call 112;with_reducible refine(R1.out _).mono ?_;rintro e w3 ⟨rfl,hb3⟩;obtain⟨hc3,hf3⟩:=qBB hb3;have hz3:w.heap.size+2<w3.heap.size:=by {have:=hb3.size;omega};have hy3:w.heap.size+1<w3.heap.size:=(by omega);have hx3:w.heap.size<w3.heap.size:=by omega)|(go_at_call 112;with_reducible refine(R2.out _).mono ?_;rintro e w4 ⟨rfl,hb4⟩;obtain⟨hc4,hf4⟩:=qBB hb4;have hz4:w.heap.size+2<w4.heap.size:=by {have:=hb4.size;omega};have hy4:w.heap.size+1<w4.heap.size:=(by omega);have hx4:w.heap.size<w4.heap.size:=by omega))
         exact bodyPost_ret (v:= .agg #[.int .i64 8,.int .i64 0]) (by simp[results,Tryz.results95,go_sem,hc1,hz1,hy1,hx1,hc2,hz2,hy2,hx2,hc3,hz3,hy3,hx3,hc4,hz4,hy4,hx4]) rfl ⟨rfl,(((((((((qAk _ _).alloc (qAi _) _).alloc (by simp) _).alloc qc _).trans (hb1.mono qK)).trans (hb2.mono (by omega))).trans (hb3.mono (by omega))).trans (hb4.mono (by omega))).setCell qc _).setCell qc _⟩
       · rw[show joinK a b c d=7 by simp[joinK,h1,h2,h3,h4],show joinN a b c d=0 by simp[joinN,h1,h2]]
         replace S1:=qAg qn;replace S2:=qAg qw;replace R1:=qAg zC;replace R2:=qAg zk;clear h1 h2 h3 h4
         go_enter Tryz.func95,Tryz.ntmps95
         go_wp2_with (first|(go_at_call 104;with_reducible refine(S1.out _).mono ?_;rintro e w1 ⟨rfl,hb1⟩;obtain⟨hc1,hf1⟩:=qBB hb1;have hz1:w.heap.size+2<w1.heap.size:=by {have:=hb1.size;simp at this;omega};have hy1:w.heap.size+1<w1.heap.size:=(by omega);have hx1:w.heap.size<w1.heap.size:=by omega)|(go_at_call 104;with_reducible refine(S2.out _).mono ?_;rintro e w2 ⟨rfl,hb2⟩;obtain⟨hc2,hf2⟩:=qBB hb2;have hz2:w.heap.size+2<w2.heap.size:=by {have:=hb2.size;omega};have hy2:w.heap.size+1<w2.heap.size:=(by omega);have hx2:w.heap.size<w2.heap.size:=by omega)|(go_at_call 112;with_reducible refine(R1.out _).mono ?_;rintro e w3 ⟨rfl,hb3⟩;obtain⟨hc3,hf3⟩:=qBB hb3;have hz3:w.heap.size+2<w3.heap.size:=by {have:=hb3.size;omega};have hy3:w.heap.size+1<w3.heap.size:=(by omega);have hx3:w.heap.size<w3.heap.size:=by omega)|(go_at_call 112;with_reducible refine(R2.out _).mono ?_;rintro e w4 ⟨rfl,hb4⟩;obtain⟨hc4,hf4⟩:=qBB hb4;have hz4:w.heap.size+2<w4.heap.size:=by {have:=hb4.size;omega};have hy4:w.heap.size+1<w4.heap.size:=(by omega);have hx4:w.heap.size<w4.heap.size:=by omega))
         exact bodyPost_ret (v:= .agg #[.int .i64 7,.int .i64 0]) (by simp[results,Tryz.results95,go_sem,hc1,hz1,hy1,hx1,hc2,hz2,hy2,hx2,hc3,hz3,hy3,hx3,hc4,hz4,hy4,hx4]) rfl ⟨rfl,(((((((((qAk _ _).alloc (qAi _) _).alloc (by simp) _).alloc qc _).trans (hb1.mono qK)).trans (hb2.mono (by omega))).trans (hb3.mono (by omega))).trans (hb4.mono (by omega))).setCell qc _).setCell qc _⟩
   · rw[show joinK a b c d=a by simp[joinK,h1,h2],show joinN a b c d=b by simp[joinN,h1,h2]]
     replace S1:=qAg qn;replace S2:=qAg qw;clear h1 h2
     go_enter Tryz.func95,Tryz.ntmps95
     go_wp2_with (first|(go_at_call 104;with_reducible refine(S1.out _).mono ?_;rintro e w1 ⟨rfl,hb1⟩;obtain⟨hc1,hf1⟩:=qBB hb1;have hz1:w.heap.size+2<w1.heap.size:=by {have:=hb1.size;simp at this;omega};have hy1:w.heap.size+1<w1.heap.size:=(by omega);have hx1:w.heap.size<w1.heap.size:=by omega)|(go_at_call 104;with_reducible refine(S2.out _).mono ?_;rintro e w2 ⟨rfl,hb2⟩;obtain⟨hc2,hf2⟩:=qBB hb2;have hz2:w.heap.size+2<w2.heap.size:=by {have:=hb2.size;omega};have hy2:w.heap.size+1<w2.heap.size:=(by omega);have hx2:w.heap.size<w2.heap.size:=by omega))
     exact bodyPost_ret (v:= .agg #[.int .i64 a,.int .i64 b]) (by simp[results,Tryz.results95,go_sem,hc1,hz1,hy1,hx1,hc2,hz2,hy2,hx2]) rfl ⟨rfl,(((((((qAk _ _).alloc (qAi _) _).alloc (by simp) _).alloc qc _).trans (hb1.mono qK)).trans (hb2.mono (by omega))).setCell qc _).setCell qc _⟩
 · rw[show joinK a b c d=c by simp[joinK,h1],show joinN a b c d=d by simp[joinN,h1]]
   replace S1:=qAg qn;clear h1
   go_enter Tryz.func95,Tryz.ntmps95
   go_wp2_with (first|(go_at_call 104;with_reducible refine(S1.out _).mono ?_;rintro e w1 ⟨rfl,hb1⟩;obtain⟨hc1,hf1⟩:=qBB hb1;have hz1:w.heap.size+2<w1.heap.size:=by {have:=hb1.size;simp at this;omega};have hy1:w.heap.size+1<w1.heap.size:=(by omega);have hx1:w.heap.size<w1.heap.size:=by omega))
   exact bodyPost_ret (v:= .agg #[.int .i64 c,.int .i64 d]) (by simp[results,Tryz.results95,go_sem,hc1,hz1,hy1,hx1]) rfl ⟨rfl,((((((qAk _ _).alloc (qAi _) _).alloc (by simp) _).alloc qc _).trans (hb1.mono qK)).setCell qc _).setCell qc _⟩
end Go.Proofs.YtelceoecekfamaaGreat
