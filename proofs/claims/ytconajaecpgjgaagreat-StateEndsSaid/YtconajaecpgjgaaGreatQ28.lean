/-
Vwc Vrx Vrk Vmk Rlc
-/
import Derived.Test.YtconajaecpgjgaaGreatQ15
import Derived.Test.YtconajaecpgjgaaGreatQ18
import Derived.Laws.OwnMore
import Derived.OwnWalk
import Derived.Lib.QuietBelow
import Derived.Deep.RegionHeld3
set_option linter.unusedSimpArgs false
set_option linter.unusedVariables false
set_option maxRecDepth 100000
set_option maxHeartbeats 2000000
namespace Go.Proofs.YtconajaecpgjgaaGreat
open Go.RowKit
theorem jh {P:Prop} (h:P:=by
 go_wp2_with fail
 exact bodyPost_ret (v:= .agg #[.int .i64 8,.int .i64 0]) (by simp[results,Tryz.results88,go_sem,hr0,hr1]) rfl ⟨by rw[HT.out],HFin.out _ _⟩):P:=h
def CS2:List (Bool×Value)→List Value
 |[]=>[]
 |x::xs=> .bool x.1::x.2::CS2 xs
theorem qCf (r:List (Bool×Value)):(CS2 r).length=r.length*2:=by
 induction r with
 |nil=>rfl
 |cons t r ih=>simp[CS2,ih];omega
theorem qGU {r:List (Bool×Value)} {j:Nat} {x:Bool×Value} (h:r[j]? =some x):(CS2 r)[j*2]? =some (.bool x.1):=by
 induction r generalizing j with
 |nil=>simp at h
 |cons u r ih=>
  cases j with
  |zero=>simp at h;subst h;simp[CS2]
  |succ j=>rw[show(j+1)*2=j*2+1+1 by omega];simp[CS2];exact ih jL
theorem qGT {r:List (Bool×Value)} {j:Nat} {x:Bool×Value} (h:r[j]? =some x):(CS2 r)[j*2+1]? =some x.2:=by
 induction r generalizing j with
 |nil=>simp at h
 |cons u r ih=>
  cases j with
  |zero=>simp at h;subst h;simp[CS2]
  |succ j=>rw[show(j+1)*2+1=j*2+1+1+1 by omega];simp[CS2];exact ih jL
theorem qGS {r:List (Bool×Value)} {k:Nat} {x:Bool×Value} {b:Bool} (h:r[k]? =some x):(CS2 r).set (k*2) (.bool b)=CS2 (r.set k (b,x.2)):=by
 induction r generalizing k with
 |nil=>simp at h
 |cons u r ih=>
  cases k with
  |zero=>simp at h;subst h;simp[CS2]
  |succ k=>
   rw[show(k+1)*2=k*2+1+1 by omega]
   simp only[CS2,List.set_cons_succ]
   rw[ih jL]
theorem qGR {r:List (Bool×Value)} {k:Nat} {x:Bool×Value} {v:Value} (h:r[k]? =some x):(CS2 r).set (k*2+1) v=CS2 (r.set k (x.1,v)):=by
 induction r generalizing k with
 |nil=>simp at h
 |cons u r ih=>
  cases k with
  |zero=>simp at h;subst h;simp[CS2]
  |succ k=>
   rw[show(k+1)*2+1=k*2+1+1+1 by omega]
   simp only[CS2,List.set_cons_succ]
   rw[ih jL]
def Bl (ws:List Bool):List Value:=ws.map .bool
theorem T2_set0 {ts:List Typ} {k:Nat} {t:Typ} {z:Int} (h:ts[k]? =some t):(T2 ts).set (k*2) (.int .i64 z)=T2 (ts.set k (z,t.2)):=by
 induction ts generalizing k with
 |nil=>simp at h
 |cons u ts ih=>
  cases k with
  |zero=>simp at h;subst h;simp[T2]
  |succ k=>
   rw[show(k+1)*2=k*2+1+1 by omega]
   simp only[T2,List.set_cons_succ]
   rw[ih jL]
theorem T2_set1 {ts:List Typ} {k:Nat} {t:Typ} {z:Int} (h:ts[k]? =some t):(T2 ts).set (k*2+1) (.int .i64 z)=T2 (ts.set k (t.1,z)):=by
 induction ts generalizing k with
 |nil=>simp at h
 |cons u ts ih=>
  cases k with
  |zero=>simp at h;subst h;simp[T2]
  |succ k=>
   rw[show(k+1)*2+1=k*2+1+1+1 by omega]
   simp only[T2,List.set_cons_succ]
   rw[ih jL]
def Stk (n0:Nat) (w:World) (v:Value) (s:List Typ):Prop:=
 (s=[]∧∃A c,v= .slice A 0 c∧c≤maxLen∧(A=none→c=0))∨(0<s.length∧A64 s∧∃b c,v= .slice (some ⟨b,0,none⟩) s.length c∧s.length≤c∧c≤maxLen∧w.ownsRow n0 58 2 (.slice (some ⟨b,0,none⟩) s.length c) s.length (T2 s))
theorem Stk.shape {n0:Nat} {w:World} {v:Value} {s:List Typ} (h:Stk n0 w v s):∃A c,v= .slice A s.length c∧s.length≤c∧c≤maxLen∧(A=none→c=0):=by
 rcases h with⟨rfl,A,c,rfl,h1,h2⟩|⟨h0,-,b,c,rfl,h1,h2,-⟩
 · exact⟨A,c,rfl,qAn _,h1,h2⟩
 · exact⟨_,c,rfl,h1,h2,fun h=>by cases h⟩
theorem Stk.a64 {n0:Nat} {w:World} {v:Value} {s:List Typ} (h:Stk n0 w v s):A64 s:=by
 rcases h with⟨rfl,-⟩|⟨-,h,-⟩
 · exact A64.nil
 · exact h
theorem Stk.keep {n0:Nat} {w w':World} {v:Value} {s:List Typ} (h:Stk n0 w v s) (hk:0<s.length→∀b,v.ownBlock=some b→w'.heap[b]? =w.heap[b]?):Stk n0 w' v s:=by
 rcases h with h|⟨h0,ha,b,c,rfl,h1,h2,ho⟩
 · exact .inl h
 · refine .inr ⟨h0,ha,b,c,rfl,h1,h2,ho.1,?_⟩
   rcases ho.2 with⟨e,_⟩|⟨g',cap,cur,e,q1,q2,q3⟩
   · cases e
   · refine .inr ⟨g',cap,cur,e,q1,?_,q3⟩
     simp only[Value.slice.injEq,Option.some.injEq,Addr.mk.injEq,and_true,true_and] at e
     obtain⟨rfl,-⟩:=e
     rw[hk h0 b rfl]
     exact q2
theorem Stk.own {n0:Nat} {w:World} {v:Value} {s:List Typ} (h:Stk n0 w v s) (h0:0<s.length):∃b,v.ownBlock=some b∧n0≤b∧b<w.heap.size:=by
 rcases h with⟨rfl,-⟩|⟨_,_,b,c,rfl,_,_,ho⟩
 · simp at h0
 · exact⟨b,rfl,ho.lt b rfl⟩
structure Turn (Z:Nat→Option Nat) (w w':World):Prop where
 os:w'.os=w.os
 tape:w'.tape=w.tape
 output:w'.output=w.output
 size:w.heap.size≤w'.heap.size
 block:∀b,b<w.heap.size→Z b=none→w'.heap[b]? =w.heap[b]?
theorem Turn.refl (Z:Nat→Option Nat) (w:World):Turn Z w w:=⟨rfl,rfl,rfl,qAZ _,fun _ _ _=>rfl⟩
theorem Turn.trans {Z Z':Nat→Option Nat} {a b c:World} (h:Turn Z a b) (k:Turn Z' b c) (hz:∀i,i<a.heap.size→Z i=none→Z' i=none):Turn Z a c:=
 ⟨k.os.trans h.os,k.tape.trans h.tape,k.output.trans h.output,qA4 h.size k.size,fun i hi hn=>(k.block i (qAa hi h.size) (hz i hi hn)).trans (h.block i hi hn)⟩
theorem Turn.of_below {Z:Nat→Option Nat} {a b:World} (h:Below a.heap.size a b):Turn Z a b:=⟨h.os,h.tape,h.output,h.size,fun i hi _=>h.block i hi⟩
theorem Turn.below {Z:Nat→Option Nat} {n0:Nat} {a b:World} (h:Turn Z a b) (hn:n0≤a.heap.size) (hz:∀i,i<n0→Z i=none):Below n0 a b:=⟨h.os,h.tape,h.output,h.size,fun i hi=>h.block i (qAa hi hn) (hz i hi)⟩
theorem Turn.set {Z:Nat→Option Nat} {a b:World} (h:Turn Z a b) {g i:Nat} (hg:Z g≠none) (u:Value):Turn Z a (b.setCell ⟨g,i,none⟩ u):=
 ⟨h.os,h.tape,h.output,by simpa[World.setCell] using h.size,fun k hk hn=>(qAd b ⟨g,i,none⟩ u k (fun e=>by rw[e] at hn;exact hg hn)).trans (h.block k hk hn)⟩
theorem Turn.then {Z:Nat→Option Nat} {a b c:World} (h:Turn Z a b) (k:Below b.heap.size b c):Turn Z a c:=h.trans (Turn.of_below (Z:=Z) k) (fun _ _ h=>h)
theorem qFl {w w':World} {n0 ty size p n c:Nat} {xs:List Value} (h:w.ownsRow n0 ty size (.slice (some ⟨p,0,none⟩) n c) n xs) (hk:w'.heap[p]? =w.heap[p]?):w'.ownsRow n0 ty size (.slice (some ⟨p,0,none⟩) n c) n xs:=by
 refine⟨h.1,?_⟩
 rcases h.2 with⟨e,_⟩|⟨g',cap,cur,e,q1,q2,q3⟩
 · cases e
 · refine .inr ⟨g',cap,cur,e,q1,?_,q3⟩
   simp only[Value.slice.injEq,Option.some.injEq,Addr.mk.injEq,and_true,true_and] at e
   obtain⟨rfl,-⟩:=e
   rw[hk]
   exact q2
def mixJ (u t:List Typ) (k:Nat):List Typ:=joinL (u.take k) (t.take k)++u.drop k
theorem qH7 (u t:List Typ):mixJ u t 0=u:=by simp[mixJ,joinL]
theorem qJl {u t:List Typ} (h:u.length=t.length):mixJ u t t.length=joinL u t:=by
 unfold mixJ
 rw[qAi (by omega),qAi (by omega),List.drop_eq_nil_of_le (by omega),List.append_nil]
theorem qG5 {a b:List Typ} (h:a.length=b.length) (x y:Typ):joinL (a++[x]) (b++[y])=joinL a b++[joinT x y]:=by
 induction a generalizing b with
 |nil=>
  cases b with
  |nil=>rfl
  |cons _ _=>simp at h
 |cons z a ih=>
  cases b with
  |nil=>simp at h
  |cons z' b=>simp only[List.cons_append,joinL,ih jL]
theorem takeJ {u t:List Typ} {k:Nat} {x y:Typ} (hx:u[k]? =some x) (hy:t[k]? =some y):joinL (u.take (k+1)) (t.take (k+1))=joinL (u.take k) (t.take k)++[joinT x y]:=by
 obtain⟨h1,rfl⟩:=qAc.1 hx
 obtain⟨h2,rfl⟩:=qAc.1 hy
 rw[qAo h1,qAo h2]
 exact qG5 (by rw[List.length_take,List.length_take];omega) _ _
theorem lenJ {u t:List Typ} {k:Nat} (h1:k≤u.length) (h2:k≤t.length):(joinL (u.take k) (t.take k)).length=k:=by
 rw[qDX (by rw[List.length_take,List.length_take];omega),List.length_take]
 omega
theorem qJk {u t:List Typ} {k:Nat} {x y:Typ} (hx:u[k]? =some x) (hy:t[k]? =some y):(mixJ u t k)[k]? =some x:=by
 have h1:=(qAc.1 hx).1
 have h2:=(qAc.1 hy).1
 unfold mixJ
 rw[List.getElem?_append_right (by rw[lenJ (by omega) (by omega)];exact qAZ _),lenJ (by omega) (by omega),List.getElem?_drop]
 simpa using hx
theorem qH8 {u t:List Typ} {k:Nat} {x y:Typ} (hx:u[k]? =some x) (hy:t[k]? =some y):mixJ u t (k+1)=(mixJ u t k).set k (joinT x y):=by
 have h1:=(qAc.1 hx).1
 have h2:=(qAc.1 hy).1
 unfold mixJ
 rw[takeJ hx hy,List.set_append_right _ _ (by rw[lenJ (by omega) (by omega)];exact qAZ _),lenJ (by omega) (by omega),Nat.sub_self,List.drop_eq_getElem_cons h1,List.set_cons_zero,List.append_assoc]
 rfl
theorem qJu {x y:Typ} (hx:I64 x.1∧I64 x.2) (hy:I64 y.1∧I64 y.2):I64 (joinT x y).1∧I64 (joinT x y).2:=by
 rcases qB3 x y with⟨_,e⟩|⟨_,_,e⟩|⟨_,_,_,_,e⟩|⟨_,_,_,e⟩<;>rw[e]
 · exact hy
 · exact hx
 · exact⟨⟨by decide,by decide⟩,⟨by decide,by decide⟩⟩
 · exact⟨⟨by decide,by decide⟩,⟨by decide,by decide⟩⟩
theorem qJs {P:Nat→Prop} (h:∃n,P n):∃m,P m∧∀k,P k→m≤k:=by
 obtain⟨n,hn⟩:=h
 induction n using Nat.strongRecOn with
 |_ n ih=>
  by_cases hk:∃k,k<n∧P k
  · obtain⟨k,h1,h2⟩:=hk
    exact ih k h1 h2
  · exact⟨n,hn,fun k h=>Nat.le_of_not_lt fun h1=>hk ⟨k,h1,h⟩⟩
theorem rank_of {σ:Type} (J:Nat→σ→Prop):∃f:σ→Nat,∀s,(∃n,J n s)→J (f s) s∧∀k,J k s→f s≤k:=by
 refine Classical.axiomOfChoice (r:=fun(s:σ) (m:Nat)=>(∃n,J n s)→J m s∧∀k,J k s→m≤k) fun s=> ?_
 by_cases h:∃n,J n s
 · obtain⟨m,hm⟩:=qJs h
   exact⟨m,fun _=>hm⟩
 · exact⟨0,fun h'=>absurd h' h⟩
theorem qJv {a b:List Typ} (ha:A64 a) (hb:A64 b):A64 (joinL a b):=by
 induction a generalizing b with
 |nil=>intro t ht;cases b<;>simp[joinL] at ht
 |cons x a ih=>
  cases b with
  |nil=>intro t ht;simp[joinL] at ht
  |cons y b=>
   intro t ht
   simp only[joinL,List.mem_cons] at ht
   rcases ht with rfl|ht
   · exact qJu (ha x (by simp)) (hb y (by simp))
   · exact ih (fun t ht=>ha t (by simp[ht])) (fun t ht=>hb t (by simp[ht])) t ht
structure Rk (B p:Nat) (w:World) (l:List Shape) (r:List (Bool×Value)):Prop where
 hp:B≤p
 row:w.ownsRow B 76 2 (.slice (some ⟨p,0,none⟩) l.length l.length) l.length (CS2 r)
 stk:∀(k:Nat) (x:Shape),l[k]? =some x→∃A c,r[k]? =some (x.1,.slice A x.2.length c)∧x.2.length≤c∧c≤maxLen∧(A=none→c=0)∧Sq typL (fun b=>B≤b∧b<w.heap.size∧b≠p) w A x.2
theorem Rk.lenr {B p:Nat} {w:World} {l:List Shape} {r:List (Bool×Value)} (h:Rk B p w l r):r.length=l.length:=by
 have:=h.row.1
 rw[qCf] at this
 omega
theorem Rk.lt {B p:Nat} {w:World} {l:List Shape} {r:List (Bool×Value)} (h:Rk B p w l r):p<w.heap.size:=(h.row.lt p rfl).2
theorem Rk.below {B p:Nat} {w w':World} {l:List Shape} {r:List (Bool×Value)} (h:Rk B p w l r) (hb:Below w.heap.size w w'):Rk B p w' l r:=by
 refine⟨h.hp,qFl h.row (hb.block p h.lt),fun k x hx=> ?_⟩
 obtain⟨A,c,h1,h2,h3,h4,h5⟩:=h.stk k x hx
 exact⟨A,c,h1,h2,h3,h4,(h5.keep fun b hb2=>hb.block b hb2.2.1).wide fun b hb2=>⟨hb2.1,qAa hb2.2.1 hb.size,hb2.2.2⟩⟩
theorem Rk.cells {B p:Nat} {w:World} {l:List Shape} {r:List (Bool×Value)} (h:Rk B p w l r) {k:Nat} {x:Shape} (hx:l[k]? =some x):
 ∃A c,r[k]? =some (x.1,.slice A x.2.length c)∧w.cell? ⟨p,k*2,none⟩=some (.bool x.1)∧w.cell? ⟨p,k*2+1,none⟩=some (.slice A x.2.length c)∧x.2.length≤c∧c≤maxLen∧(A=none→c=0)∧Sq typL (fun b=>B≤b∧b<w.heap.size∧b≠p) w A x.2:=by
 obtain⟨A,c,h1,h2,h3,h4,h5⟩:=h.stk k x hx
 have hk:=(qAc.1 hx).1
 exact⟨A,c,h1,(h.row.cellAt (k*2) (by omega)).trans (qGU h1),(h.row.cellAt (k*2+1) (by omega)).trans (qGT h1),h2,h3,h4,h5⟩
theorem Rk.seen {B p:Nat} {w:World} {l:List Shape} {r:List (Bool×Value)} (h:Rk B p w l r) {k:Nat} (hk:k<l.length) {A:Option Addr} {c:Nat} {t:List Typ} (h1:t.length≤c) (h2:c≤maxLen) (h3:A=none→c=0) (h4:Sq typL (fun b=>B≤b∧b<w.heap.size∧b≠p) w A t):
 Rk B p ((w.setCell ⟨p,k*2,none⟩ (.bool true)).setCell ⟨p,k*2+1,none⟩ (.slice A t.length c)) (l.set k (true,t)) (r.set k (true,.slice A t.length c)):=by
 have hz:∀i,i≠p→((w.setCell ⟨p,k*2,none⟩ (.bool true)).setCell ⟨p,k*2+1,none⟩ (.slice A t.length c)).heap[i]? =w.heap[i]? :=fun i hi=>(qAd _ ⟨p,k*2+1,none⟩ _ i hi).trans (qAd w ⟨p,k*2,none⟩ (.bool true) i hi)
 have hsz:((w.setCell ⟨p,k*2,none⟩ (.bool true)).setCell ⟨p,k*2+1,none⟩ (.slice A t.length c)).heap.size=w.heap.size:=by simp[World.setCell]
 obtain⟨x,hx⟩:∃x,l[k]? =some x:=⟨_,qAY hk⟩
 obtain⟨A0,c0,hr0,-⟩:=h.stk k x hx
 refine⟨h.hp,?_,fun j y hy=> ?_⟩
 · have k1:=(h.row.stored (k*2) (.bool true)).1
   have k2:=(k1.stored (k*2+1) (.slice A t.length c)).1
   have hr1:(r.set k (true,.slice A0 x.2.length c0))[k]? =some (true,.slice A0 x.2.length c0):=by rw[List.getElem?_set_self (by rw[h.lenr];exact hk)]
   rw[qGS hr0,qGR hr1,List.set_set] at k2
   simpa using k2
 · exact zE
theorem Rk.stack {B p:Nat} {w:World} {l:List Shape} {r:List (Bool×Value)} (h:Rk B p w l r) {k:Nat} {u:List Typ} (hx:l[k]? =some (true,u)) {A:Option Addr} {c:Nat} {t:List Typ} (h1:t.length≤c) (h2:c≤maxLen) (h3:A=none→c=0) (h4:Sq typL (fun b=>B≤b∧b<w.heap.size∧b≠p) w A t):
 Rk B p (w.setCell ⟨p,k*2+1,none⟩ (.slice A t.length c)) (l.set k (true,t)) (r.set k (true,.slice A t.length c)):=by
 have hk:=(qAc.1 hx).1
 have hz:∀i,i≠p→(w.setCell ⟨p,k*2+1,none⟩ (.slice A t.length c)).heap[i]? =w.heap[i]? :=fun i hi=>qAd _ ⟨p,k*2+1,none⟩ _ i hi
 have hsz:(w.setCell ⟨p,k*2+1,none⟩ (.slice A t.length c)).heap.size=w.heap.size:=by simp[World.setCell]
 obtain⟨A0,c0,hr0,-⟩:=h.stk k _ hx
 refine⟨h.hp,?_,fun j y hy=> ?_⟩
 · have k2:=(h.row.stored (k*2+1) (.slice A t.length c)).1
   rw[qGR hr0] at k2
   simpa using k2
 · exact zE
theorem Rk.mark {B p:Nat} {w:World} {l:List Shape} {r:List (Bool×Value)} (h:Rk B p w l r) {k:Nat} {b:Bool} {u:List Typ} (hx:l[k]? =some (b,u)):∃r',Rk B p (w.setCell ⟨p,k*2,none⟩ (.bool true)) (l.set k (true,u)) r':=by
 have hk:=(qAc.1 hx).1
 have hz:∀i,i≠p→(w.setCell ⟨p,k*2,none⟩ (.bool true)).heap[i]? =w.heap[i]? :=fun i hi=>qAd _ ⟨p,k*2,none⟩ _ i hi
 have hsz:(w.setCell ⟨p,k*2,none⟩ (.bool true)).heap.size=w.heap.size:=by simp[World.setCell]
 obtain⟨A0,c0,hr0,g1,g2,g3,g4⟩:=h.stk k _ hx
 refine⟨r.set k (true,.slice A0 u.length c0),h.hp,?_,fun j y hy=> ?_⟩
 · have k2:=(h.row.stored (k*2) (.bool true)).1
   rw[qGS hr0] at k2
   simpa using k2
 · rw[List.getElem?_set] at hy
   by_cases e:k=j
   · subst e
     rw[if_pos rfl,if_pos hk] at hy
     injection hy with hy
     subst hy
     exact⟨A0,c0,by rw[List.getElem?_set_self (by rw[h.lenr];exact hk)],g1,g2,g3,(g4.keep fun b hb=>hz b hb.2.2).wide fun b hb=>by rw[hsz];exact hb⟩
   · rw[if_neg e] at hy
     obtain⟨A1,c1,q1,q2,q3,q4,q5⟩:=h.stk j y hy
     exact⟨A1,c1,by rw[List.getElem?_set_ne e];exact q1,q2,q3,q4,(q5.keep fun b hb=>hz b hb.2.2).wide fun b hb=>by rw[hsz];exact hb⟩
theorem qJW {w W:World} {n p:Nat} (hn:n≤1000) (hp:w.heap.size≤p) (hP:Blk W p 76 (madeCells #[.bool false,.slice none 0 0] (n*2))) (hm:(madeCells #[.bool false,.slice none 0 0] (n*2)).toList=CS2 (List.replicate n (false,.slice none 0 0))):Rk w.heap.size p W (List.replicate n (false,[])) (List.replicate n (false,.slice none 0 0)):=by
 have hnm:n≤maxLen:=by unfold maxLen;omega
 refine⟨hp,?_,fun k x hx=> ?_⟩
 · rw[List.length_replicate]
   refine⟨by rw[qCf,List.length_replicate],.inr ⟨p,n,_,rfl,hp,hP,qAZ _,hnm,size_madeCells _ _,?_⟩⟩
   rw[hm,qAi (by rw[qCf,List.length_replicate];exact qAZ _)]
 · have hk:=(qAc.1 hx).1
   rw[List.length_replicate] at hk
   rw[List.getElem?_replicate,if_pos hk] at hx
   injection hx with hx
   subst hx
   exact⟨none,0,(by rw[List.getElem?_replicate,if_pos hk];rfl),qAZ _,by simp[maxLen],fun _=>rfl,Sq.nil _ _ _ _⟩
theorem Rk.done {B p:Nat} {w:World} {l:List Shape} {r:List (Bool×Value)} (h:Rk B p w l r):rowL.R (fun b=>B≤b∧b<w.heap.size) w [.slice (some ⟨p,0,none⟩) l.length l.length] l:=by
 have hlm:l.length≤maxLen:=by
  rcases h.row.2 with⟨e,_⟩|⟨g',cap,cur,e,_,_,hnc,hcm,_⟩
  · cases e
  · omega
 refine⟨_,_,rfl,qAZ _,hlm,fun _=>⟨_,rfl,⟨h.hp,h.lt⟩,fun k x hx=> ?_⟩⟩
 obtain⟨A,c,hr,h0,h1,h2,h3,h4,h5⟩:=h.cells hx
 have e:∀i,(⟨p,0,none⟩:Addr).add i=⟨p,i,none⟩:=fun i=>by unfold Addr.add;split<;>simp_all
 refine⟨[.bool x.1,.slice A x.2.length c],fun i u hu=> ?_,_,rfl,A,c,rfl,h2,h3,h4,h5.wide fun b hb=>⟨hb.1,hb.2.1⟩⟩
 rw[e]
 match i,hu with
 |0,hu=>simp at hu;subst hu;exact h0
 |1,hu=>simp at hu;subst hu;exact h1
 |i+2,hu=>simp at hu
structure Rnd (m:Mod) (fn:Fn) (l0 l:List Shape) (b:Bool) (ok:Prop):Prop where
 runF:RunF m fn l
 out:∀(p:Nat) (s:List Typ),l[p]? =some (false,s)→s=[]
 same:b=false→l=l0∧ok
 less:b=true→rkS (toS l) fn.code.length<rkS (toS l0) fn.code.length
theorem Rnd.ok {m:Mod} {fn:Fn} {l0 l:List Shape} {b:Bool} {ok ok':Prop} (h:Rnd m fn l0 l b ok) (hk:b=false→l=l0→ok→ok'):Rnd m fn l0 l b ok':=
 ⟨h.runF,h.out,fun hb=>⟨(h.same hb).1,hk hb (h.same hb).1 (h.same hb).2⟩,h.less⟩
theorem Rnd.le {m:Mod} {fn:Fn} {l0 l:List Shape} {b:Bool} {ok:Prop} (h:Rnd m fn l0 l b ok):rkS (toS l) fn.code.length≤rkS (toS l0) fn.code.length:=by
 cases b
 · rw[(h.same rfl).1];exact qAZ _
 · exact Nat.le_of_lt (h.less rfl)
theorem Rnd.seen {m:Mod} {fn:Fn} {l0 l:List Shape} {b:Bool} {ok ok':Prop} {pc k:Nat} {i:Ins} {s t:List Typ} {ks:List Int} (h:Rnd m fn l0 l b ok) {z:List Typ} (hx:l[k]? =some (false,z)) (hu:Und m fn pc s) (hi:fn.code[pc]? =some i) (hf:insB8 m fn i pc s=(0,t,ks)) (hk:(k:Int)∈ks) (hc:canL t) (h8:t.length≤8):Rnd m fn l0 (l.set k (true,t)) true ok':=by
 have hlk:=(qAc.1 hx).1
 have hlt:k<fn.code.length:=by rw[←h.runF.len];exact hlk
 refine⟨⟨by simpa using h.runF.len,by rw[qDH hlk];exact run_new h.runF.run hu hi hf hk (qDQ hx) hc h8 hlt⟩,fun p s hp=> ?_,fun e=>(by cases e),fun _=> ?_⟩
 · exact qAA
 · rw[qDH hlk]
   exact qAa (rkS_new hlt (qDQ hx) h8) h.le
theorem Rnd.join {m:Mod} {fn:Fn} {l0 l:List Shape} {b:Bool} {ok ok':Prop} {pc k:Nat} {i:Ins} {s t u:List Typ} {ks:List Int} (h:Rnd m fn l0 l b ok) (hx:l[k]? =some (true,u)) (hu:Und m fn pc s) (hi:fn.code[pc]? =some i) (hf:insB8 m fn i pc s=(0,t,ks)) (hk:(k:Int)∈ks) (hn:u.length=t.length) (hc:canL t) (hne:joinL u t≠u):Rnd m fn l0 (l.set k (true,joinL u t)) true ok':=by
 have hlk:=(qAc.1 hx).1
 have hlt:k<fn.code.length:=by rw[←h.runF.len];exact hlk
 have hcu:=(h.runF.run.can k u (qBK hx)).1
 refine⟨⟨by simpa using h.runF.len,by rw[qDH hlk];exact qJH h.runF.run hu hi hf hk (qBK hx) hn hc⟩,fun p s hp=> ?_,fun e=>(by cases e),fun _=> ?_⟩
 · exact qAA
 · rw[qDH hlk]
   exact qAa (qJX hlt (qBK hx) hcu hc hn hne) h.le
theorem made_C2 (n:Nat):(madeCells #[.bool false,.slice none 0 0] (n*2)).toList=CS2 (List.replicate n (false,.slice none 0 0)):=by
 apply List.ext_getElem?
 intro i
 by_cases hi:i<n*2
 · have hj:i / 2<n:=by omega
   have hr:(List.replicate n ((false,.slice none 0 0):Bool×Value))[i / 2]? =some (false,.slice none 0 0):=by simp[hj]
   rcases Nat.mod_two_eq_zero_or_one i with e|e
   · have h0:=qGU hr
     rw[show i / 2*2=i by omega] at h0
     rw[h0]
     simp[madeCells,hi,e]
   · have h0:=qGT hr
     rw[show i / 2*2+1=i by omega] at h0
     rw[h0]
     simp[madeCells,hi,e]
 · rw[List.getElem?_eq_none (by simp[madeCells];omega),List.getElem?_eq_none (by rw[qCf];simp;omega)]
theorem qJB:(Tryz.prog.info? 76).map (fun i=>(i.zero,i.size,i.bytes))=some (some (.agg #[.bool false,.slice none 0 0]),2,32):=by kernel_rfl
theorem qFA (n:Nat) (hn:n≤1000) (w:World):(Instr.makeSlice 74 (.int .i64 (n:Nat)) (.int .i64 (n:Nat))).run Tryz.prog w= .ok (.slice (some ⟨w.heap.size,0,none⟩) n n) (w.alloc (.cells (madeCells #[.bool false,.slice none 0 0] (n*2)) 76)):=by
 obtain⟨i,hi,hz,hs,hb⟩:=info_parts qJB
 have:=run_make (P:=Tryz.prog) w 74 76 i _ Tryz.underlying74 hi hz .i64 .i64 (n:Int) (n:Int) (by omega) (Int.le_refl _) (by rw[hb];omega) (by omega)
 rw[hs,Int.toNat_natCast] at this
 exact this
theorem own_stk {n0 n:Nat} {w:World} {v:Value} {ts:List Typ} (h:w.ownsRow n0 58 2 v n (T2 ts)) (ha:A64 ts) (hl:ts.length=n):Stk n0 w v ts:=by
 subst hl
 rcases Nat.eq_zero_or_pos ts.length with h0|h0
 · rcases h.2 with⟨rfl,_⟩|⟨g,cap,cur,rfl,_,_,hnc,hcm,_,_⟩
   · exact .inl ⟨qAv h0,none,0,rfl,by simp[maxLen],fun _=>rfl⟩
   · rw[h0]
     exact .inl ⟨qAv h0,_,cap,rfl,hcm,fun h=>by cases h⟩
 · have h2:=h
   rcases h.2 with⟨_,h1⟩|⟨g,cap,cur,rfl,_,_,hnc,hcm,_,_⟩
   · omega
   · exact .inr ⟨h0,ha,g,cap,rfl,hnc,hcm,h2⟩
theorem qJp {f:Fn} {n:Int} {j:Nat} {t:Typ} (hn:n=(j:Int)) (h:(f.args++f.locs)[j]? =some t):locB f n=t:=by
 subst hn
 simp only[locB,Int.toNat_natCast,h]
 rw[if_neg (by omega)]
 rfl
def C2 (b:Nat) (x y:Value) (w:World):Prop:=w.cell? ⟨b,0,none⟩=some x∧w.cell? ⟨b,3,none⟩=some y
theorem qEC (A0 A1 A2:Option Addr) (u0 u1 u2 c0 c1 c2:Nat) (r1 r2:Int) (f:Fn) (n:Int) (w:World) (h0:f.args.length=u0) (h1:f.locs.length=u1) (s0:Sq typL (·<w.heap.size) w A0 f.args) (s1:Sq typL (·<w.heap.size) w A1 f.locs)
 (b0:u0+u1≤1000000) (hn:I64 n):Calls Tryz.prog 88 #[.agg #[.slice A0 u0 c0,.int .i64 r1,.int .i64 r2,.slice A1 u1 c1,.slice A2 u2 c2],.int .i64 n] w (TypIs (locB f n) w):=by
 obtain⟨hn1,hn2⟩:=hn
 have S0:=qAU s0
 have S1:=qAU s1
 have L0:=qAU h0
 have L1:=qAU h1
 have HA:=qAU (s0.a64.app s1.a64)
 clear s0 s1 h0 h1
 go_enter Tryz.func88,Tryz.ntmps88
 go_wp2_with fail
 refine qAj fun W hW=> ?_
 have HB:Hid (Below w.heap.size w W):=by show Below _ _ _;rw[hW];exact(qAe _ _).alloc (by simp) _
 have hz:w.heap.size+2≤W.heap.size:=by rw[hW];simp
 have HC:Hid (W.cell? ⟨w.heap.size,0,none⟩=some (.slice A0 u0 c0)∧W.cell? ⟨w.heap.size,3,none⟩=some (.slice A1 u1 c1)):=by show _∧_;rw[hW];simp[go_sem]
 have HR:Hid (Blk W (w.heap.size+1) 58 #[.int .i64 0,.int .i64 0]):=by show Blk _ _ _ _;rw[hW];exact qAh (by simp)
 clear hW
 have HCb:Hid (∀w',Below W.heap.size W w'→w'.cell? ⟨w.heap.size,0,none⟩=some (.slice A0 u0 c0)∧w'.cell? ⟨w.heap.size,3,none⟩=some (.slice A1 u1 c1)):=fun w' hb=>⟨(hb.cell (p:=⟨w.heap.size,0,none⟩) zX).trans HC.out.1,(hb.cell (p:=⟨w.heap.size,3,none⟩) zX).trans HC.out.2⟩
 have HOE:Hid ((W.alloc (.cells #[] 58)).drew.ownsRow W.heap.size 58 2 (.slice (some ⟨W.heap.size,0,none⟩) 0 0) 0 (T2 [])):=qBz W
 go_region_held3 (fun w'=>w'.cell? ⟨w.heap.size,0,none⟩=some (.slice A0 u0 c0)∧w'.cell? ⟨w.heap.size,3,none⟩=some (.slice A1 u1 c1))
  (first|exact SS2.out|exact SS1.out|exact HC.out|exact HCb.out _ (qAe W _).drew|exact HCb.out _ (qAe W _))
  (first
  |(with_reducible refine qBh (.tmp 6) (.tmp 8) 56 ?_
    refine qCg _ rfl (.tmp 6) (.tmp 8) rfl W.heap.size (.slice (some ⟨W.heap.size,0,none⟩) 0 0) 0 [] rfl HOE.out A0 u0 c0 f.args rfl L0.out _ ((S0.out.below HB.out (qAZ _)).below (qAe W _).drew (by omega)) (by omega) (by simp) ?_
    intro v1 w1 hown1 hg1 ha1
    have HO1:=qAU hown1
    have HB1:=qAU ((qAe W _).drew.grown hg1 (by simp) (fun i hi=>(HOE.out.lt i hi).1))
    have SS1:=qAU (HCb.out _ HB1.out)
    have hs1:=HB1.out.size
    clear hown1 hg1 ha1)
  |(with_reducible refine qBh (.tmp 9) (.tmp 11) 56 ?_
    refine qCg _ rfl (.tmp 9) (.tmp 11) rfl W.heap.size v1 (0+u0) ([]++f.args) rfl HO1.out A1 u1 c1 f.locs rfl L1.out _ ((S1.out.below HB.out (qAZ _)).below HB1.out (by omega)) (by omega) hs1 ?_
    intro v2 w2 hown2 hg2 ha2
    have HO2:=qAU hown2
    have HB2:=qAU (HB1.out.grown hg2 hs1 (fun i hi=>(HO1.out.lt i hi).1))
    have SS2:=qAU (HCb.out _ HB2.out)
    have hs2:=HB2.out.size
    clear hown2 hg2 ha2))
 obtain⟨A,c,rfl,hl,hlc,hcm,hsq⟩:=qC8 HO2.out (by simpa using HA.out)
 rw[List.nil_append] at hsq
 have HS:=qAU hsq
 have HRr:Hid (Blk w2 (w.heap.size+1) 58 #[.int .i64 0,.int .i64 0]):=qAX HR.out HB2.out (by omega)
 have hr0:=HRr.out.cell 0
 have hr1:=HRr.out.cell 1
 have hf0:=HRr.out.frozen 0
 have hf1:=HRr.out.frozen 1
 clear hl hsq hcm
 obtain⟨z,hzz⟩:∃z,0+u0+u1=z:=⟨_,rfl⟩
 have HZ0:Hid (u0+u1=z):=by show _=z;omega
 rw[hzz] at*
 have HZ:Hid ((f.args++f.locs).length=z):=by show _=z;rw[List.length_append,L0.out,L1.out,HZ0.out]
 have z0:z≤1000000:=by have:=HZ0.out;omega
 have HFin:Hid (∀u v,Below w.heap.size w ((w2.setCell ⟨w.heap.size+1,0,none⟩ u).setCell ⟨w.heap.size+1,1,none⟩ v)):=fun u v=>qAu (HB.out.trans (HB2.out.mono (by omega))) (by omega)
 by_cases hneg:n<0
 · have HT:=qAU (qF5 (f:=f) hneg)
   exact jh
 · by_cases hout:(z:Int)≤n
   · have HT:=qAU (qF4 (f:=f) (n:=n) (by rw[L0.out,L1.out];have:=HZ.out;rw[List.length_append,L0.out,L1.out] at this;omega))
     exact jh
   · obtain⟨j,hj⟩:∃j:Nat,n=(j:Int):=⟨n.toNat,by omega⟩
     subst hj
     obtain⟨t,ht⟩:∃t,(f.args++f.locs)[j]? =some t:=⟨(f.args++f.locs)[j]'(by rw[HZ.out];omega),qAY _⟩
     have HT:=qAU (qJp rfl ht)
     obtain⟨a,cs,rfl,hab,hc,hr⟩:=HS.out.at ht
     obtain⟨rfl,-,-⟩:=hr
     have k0:=hc 0 _ rfl
     rw[show j*typL.k+0=j*2 from rfl] at k0
     have k1:=hc 1 _ rfl
     rw[show j*typL.k+1=j*2+1 from rfl,qAg a (j*2) 1 (by omega)] at k1
     have j1:(j:Int)<(z:Int):=by omega
     clear hc ht hneg hout
     go_wp2_with fail
     exact bodyPost_ret (v:= .agg #[.int .i64 t.1,.int .i64 t.2]) (by simp[results,Tryz.results88,go_sem,hr0,hr1]) rfl ⟨by rw[HT.out],HFin.out _ _⟩
end Go.Proofs.YtconajaecpgjgaaGreat
