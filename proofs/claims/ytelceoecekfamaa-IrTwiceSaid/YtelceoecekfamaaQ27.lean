/-
Irt
-/
import Derived.Test.YtelceoecekfamaaQ06
import Derived.Test.YtelceoecekfamaaQ17
set_option linter.unusedSimpArgs false
set_option linter.unusedVariables false
namespace Go.Proofs.Ytelceoecekfamaa
open Go.RowKit
variable {b base:Nat}{c:Nat→Nat}{cs:List Value}{f:Nat→Value}{h:Nat→Nat}{k:Nat}{n:Nat→Nat}{r:Nat→Nat→Nat→Int}{v:Value}{w:World}
theorem qCN (k m:Nat) (w:World) {ops:Array Oper} {rest:List Oper} {o:Oper} {a:Act} {Q:Exit→Act→World→Prop} (hgd:o.guard=none) (s x:Operand) (T E:TypeId)
 (ho:o.op= .call {callee:= .builtin .append,args:= #[s,x],argTypes:= #[T,T]})
 (z:Value) (B:Nat) (hT:Try.prog.underlying T=some (.slice E)) (hI:(Try.prog.info? E).map (fun i=>(i.zero,i.size,i.bytes))=some (some z,k,B)) (hz:z.cells.size=k) (hk:0<k) (hB:B≤100)
 (base:Nat) (v:Value) (n:Nat) (cs:List Value) (hs:a.eval s=v) (hO:w.ownsRow base E k v n cs) (ad:Addr) (d:Nat) (hx:a.eval x= .slice (some ad) m d) (ys:List Value) (hl:ys.length=m*k)
 (hc:∀j u,ys[j]? =some u→w.cell? (ad.add j)=some u) (hone:∀u∈ys,u.oneCell'=true) (hbig:n+m≤1000000) (hbase:base≤w.heap.size)
 (h:∀v' w',w'.ownsRow base E k v' (n+m) (cs++ys)→w.grownBy w' v.ownBlock→(v'.ownBlock=v.ownBlock∨v'.ownBlock=some w.heap.size)→wpList Try.prog ops Q rest (a.put o.dst v') w'):wpList Try.prog ops Q (o::rest) a w:=by
 refine wpList_plain hgd fun _ hK=> ?_;obtain⟨i0,hi0,hz0,hz1,hz2⟩:=info_parts hI;have hBx:(n+m)*B≤140737488355328:=by
  have:=Nat.mul_le_mul hbig hB
  omega
 obtain⟨v',w',hrun,h2,h3,_,h5⟩:=run_append_own_at (P:=Try.prog) w base T o.type E i0 z k B hT hi0 hz0 hz1 hz2 hz hk v n cs hO ad m d ys hl hc hone
  zD hBx hbase
 unfold Oper.wp execOp;simp only[ho,resolve,invoke,builtin,Sem.run_bind,Sem.run_pure,Result.andThen_ok,List.map_toArray,List.map_cons,List.map_nil,hs,hx,hrun];exact hK _ _ (h v' w' h2 h3 h5)
def Rcl (w:World) (b n:Nat) (f:Nat→Value):Prop:=b<w.heap.size∧∀i,i<n→w.cell? ⟨b,i,none⟩=some (f i)
theorem Rcl.keep {v:World} {n:Nat} (h:Rcl w b n f) (hk:v.heap[b]? =w.heap[b]?) (hs:w.heap.size≤v.heap.size):Rcl v b n f:=
 ⟨qAG h.1 hs,fun i hi=>by rw[←h.2 i hi];simp only[World.cell?,hk]⟩
theorem Rg.keep {v:World} {ty n:Nat} (h:Rg w b ty n f) (hk:v.heap[b]? =w.heap[b]?):Rg v b ty n f:=by
 obtain⟨c,h1,hs,hc⟩:=h;exact⟨c,(show v.heap[b]? =_ from hk.trans h1),hs,hc⟩
structure Fst (n:Nat→Nat) (r:Nat→Nat→Nat→Int) (base k:Nat) (w:World) (v:Value) (cs:List Value) (h c:Nat→Nat):Prop where
 own:w.ownsRow base 36 1 v k cs
 cell:∀j,j<k→cs[j]? =some (.slice (some ⟨h j,0,none⟩) (n j) (c j))
 cap:∀j,j<k→n j≤c j∧c j≤maxLen
 row:∀j,j<k→Rcl w (h j) (n j*6) (cel6 (r j))
 lo:∀j,j<k→base≤h j
 ne:∀j,j<k→v.ownBlock≠some (h j)
theorem Fst.keep {w':World} (H:Fst n r base k w v cs h c) (hk:∀b,base≤b→b<w.heap.size→w'.heap[b]? =w.heap[b]?) (hs:w.heap.size≤w'.heap.size):Fst n r base k w' v cs h c:=by
 refine⟨⟨H.own.1,?_⟩,H.cell,H.cap,fun j hj=>(H.row j hj).keep (hk _ (H.lo j hj) (H.row j hj).1) hs,H.lo,H.ne⟩;rcases H.own.2 with h0|⟨g,cap,cur,e,hb,hg,hr⟩
 · exact .inl h0
 · exact .inr ⟨g,cap,cur,e,hb,by rw[hk g hb (Array.getElem?_eq_some_iff.1 hg).1];exact hg,hr⟩
theorem Fst.zero (n:Nat→Nat) (r:Nat→Nat→Nat→Int) (base:Nat) (w:World):Fst n r base 0 w (.slice none 0 0) [] (fun _=>0) fun _=>0:=
 ⟨World.ownsRow_nil _ _ _ _,fun j hj=>absurd hj (by omega),fun j hj=>absurd hj (by omega),fun j hj=>absurd hj (by omega),fun j hj=>absurd hj (by omega),fun j hj=>absurd hj (by omega)⟩
theorem Fst.push {d:Nat} {w':World} {v':Value} (H:Fst n r base k w v cs h c) (hr:Rcl w b (n k*6) (cel6 (r k))) (hb:base≤b) (hd:n k≤d∧d≤maxLen) (hvb:v.ownBlock≠some b)
 (ho:w'.ownsRow base 36 1 v' (k+1) (cs++[.slice (some ⟨b,0,none⟩) (n k) d])) (hg:w.grownBy w' v.ownBlock) (hv:v'.ownBlock=v.ownBlock∨v'.ownBlock=some w.heap.size):
 Fst n r base (k+1) w' v' (cs++[.slice (some ⟨b,0,none⟩) (n k) d]) (fun j=>if j=k then b else h j) fun j=>if j=k then d else c j:=by
 have hl:cs.length=k:=by have:=H.own.1;simpa using this
 have hkeep:∀{x n f},Rcl w x n f→v.ownBlock≠some x→Rcl w' x n f:=fun hx hn=>hx.keep (hg.block _ hx.1 hn.symm) hg.size;have hne:∀{x n f},Rcl w x n f→v.ownBlock≠some x→v'.ownBlock≠some x:=fun hx hn e=>by
  rcases hv with e2|e2
  · exact hn (e2▸e)
  · rw[e2] at e
    injection e with e;have:=hx.1
    omega
 refine⟨ho,fun j hj=> ?_,fun j hj=> ?_,fun j hj=> ?_,fun j hj=> ?_,fun j hj=> ?_⟩<;>by_cases e:j=k
 · subst e;simp[hl]
 · rw[List.getElem?_append_left (by omega)];simpa[e] using H.cell j (by omega)
 · subst e;simpa using hd
 · simpa[e] using H.cap j (by omega)
 · subst e;simpa using hkeep hr hvb
 · simpa[e] using hkeep (H.row j (by omega)) (H.ne j (by omega))
 · subst e;simpa using hb
 · simpa[e] using H.lo j (by omega)
 · subst e;simpa using hne hr hvb
 · simpa[e] using hne (H.row j (by omega)) (H.ne j (by omega))
theorem Fst.slice (H:Fst n r base k w v cs h c) (hk:0<k):
 ∃q d,v= .slice (some ⟨q,0,none⟩) k d∧k≤d∧d≤maxLen∧base≤q∧q<w.heap.size∧∀j,j<k→w.cell? ⟨q,j,none⟩=some (.slice (some ⟨h j,0,none⟩) (n j) (c j)):=by
 have ho:=H.own;rcases ho.2 with⟨-,h0⟩|⟨g,cap,cur,rfl,hb,hg,h1,h2,-⟩
 · omega
 · exact⟨g,cap,rfl,h1,h2,hb,(Array.getElem?_eq_some_iff.1 hg).1,fun j hj=>by rw[ho.cellAt j (by omega),H.cell j hj]⟩
theorem qG3 {ty n:Nat} (h:w.ownsRow base ty k v n ((List.range (n*k)).map f)) (hn:0<n):
 ∃b d,v= .slice (some ⟨b,0,none⟩) n d∧base≤b∧n≤d∧d≤maxLen∧Rcl w b (n*k) f:=by
 have ho:=h;rcases ho.2 with⟨-,h0⟩|⟨g,cap,cur,rfl,hb,hg,h1,h2,-⟩
 · omega
 · exact⟨g,cap,rfl,hb,h1,h2,(Array.getElem?_eq_some_iff.1 hg).1,fun i hi=>by rw[ho.cellAt i hi];simp[hi]⟩
theorem Fst.own_lt (H:Fst n r base k w v cs h c) (hb:v.ownBlock=some b):base≤b∧b<w.heap.size:=by
 rcases H.own.2 with⟨rfl,-⟩|⟨g,cap,cur,rfl,h1,hg,-⟩
 · cases hb
 · injection hb with hb
   subst hb;exact⟨h1,(Array.getElem?_eq_some_iff.1 hg).1⟩
theorem qHR {w1:World} {v1:Value} {e:Nat} (H:Fst n r base k w v cs h c) (hbase:base≤w.heap.size) (h0:0<n k)
 (ho1:w1.ownsRow w.heap.size e 6 v1 (0+n k) ([]++(List.range (n k*6)).map (cel6 (r k)))) (hg1:(w.alloc (.cells #[] e)).grownBy w1 (some w.heap.size)):
 (∀b,b<w.heap.size→w1.heap[b]? =w.heap[b]?)∧w.heap.size<w1.heap.size∧Below base w w1∧∃b d,v1= .slice (some ⟨b,0,none⟩) (n k) d∧n k≤d∧d≤maxLen∧w.heap.size≤b∧b<w1.heap.size∧∀ob:Obj,(w1.alloc ob).ownsRow base 36 1 v k cs∧
   ∀v' w',w'.ownsRow base 36 1 v' (k+1) (cs++[.slice (some ⟨b,0,none⟩) (n k) d])→(w1.alloc ob).grownBy w' v.ownBlock→(v'.ownBlock=v.ownBlock∨v'.ownBlock=some (w1.alloc ob).heap.size)→
    (∀b,b<base→w'.heap[b]? =w.heap[b]?)∧w.heap.size<w'.heap.size∧Below base w w'∧∃h' c',Fst n r base (k+1) w' v' (cs++[.slice (some ⟨b,0,none⟩) (n k) d]) h' c':=by
 have hk1:∀b,b<w.heap.size→w1.heap[b]? =w.heap[b]? :=fun b hb=>(hg1.block b qK (fun e=>by injection e with e;omega)).trans (qAp w _ b hb);have hs1:w.heap.size<w1.heap.size:=by have:=hg1.size;simp at this;omega
 rw[Nat.zero_add,List.nil_append] at ho1;obtain⟨b,d,rfl,hb,hd,hm,hrc⟩:=qG3 ho1 h0;have hB1:Below base w w1:=((qAN w _).mono hbase).trans (qBA hg1 qK fun i hi=>by injection hi with hi;omega);refine⟨hk1,hs1,hB1,b,d,rfl,hd,hm,hb,hrc.1,fun ob=> ?_⟩;have hka:∀x,x<w1.heap.size→(w1.alloc ob).heap[x]? =w1.heap[x]? :=fun x hx=>qAp w1 ob x hx;have HA:Fst n r base k (w1.alloc ob) v cs h c:=H.keep (fun x _ hx=>(hka x (by omega)).trans (hk1 x hx)) qK;refine⟨HA.own,fun v' w' ho hg hv=> ?_⟩;have hsw:=hg.size;simp at hsw;refine⟨fun x hx=> ?_,by omega,?_,_,_,HA.push (hrc.keep (hka b hrc.1) (by simp)) (by omega) ⟨hd,hm⟩ (fun e=>by have:=(H.own_lt e).2;omega) ho hg hv⟩
 · rw[hg.block x qK (fun e=>by have:=(H.own_lt e.symm).1;omega),hka x (by omega),hk1 x (by omega)]
 · exact hB1.trans (((qAN w1 ob).mono (by omega)).trans (qBA hg qK fun i hi=>(H.own_lt hi).1))
theorem qIJ {x:Mod} {L:List (List Shape)} {j:Nat} (hc:checkN x=0) (hL:LeastM x L) (hj:j<L.length):0<lenF L j:=by
 obtain⟨l,hl,hLe⟩:=hL.get (j:=j) (fn:=x.funcs[j]'(by rw[←hL.len];exact hj)) (List.getElem?_eq_getElem _);simp only[lenF,hl,Option.getD_some];rw[hLe.len];have:=(qAW.1 (qAT hc)).funcs _ (List.getElem_mem (show j<x.funcs.length by rw[←hL.len];exact hj));simp only[fnOk,Bool.and_eq_true,qAn] at this
 omega
end Go.Proofs.Ytelceoecekfamaa
