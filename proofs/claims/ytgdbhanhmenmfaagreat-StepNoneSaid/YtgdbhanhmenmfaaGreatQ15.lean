/-
Gd Cln
-/
import Derived.Test.YtgdbhanhmenmfaaGreatQ01
import Derived.Test.YtgdbhanhmenmfaaGreatQ04
import Derived.Test.YtgdbhanhmenmfaaGreatQ13
import Derived.Test.YtgdbhanhmenmfaaGreatQ14
import Derived.Deep.RegionHeld3
set_option linter.unusedSimpArgs false
set_option linter.unusedVariables false
set_option maxRecDepth 100000
set_option maxHeartbeats 4000000
namespace Go.Proofs.YtgdbhanhmenmfaaGreat
open Go.RowKit
variable {B M N base:Nat}{cs:List Value}{g i j k n:Nat}{tg:Nat→Nat}{ty:Nat}{u v:Value}{w:World}{xs:List Frm}
theorem zO {P:Prop} (h:P:=by
 go_simp
 try with_reducible rfl):P:=h
theorem qDp {b b':Nat} {xs:List Value} (h:w.ownsRow b ty k v n xs) (hb:b'≤b):w.ownsRow b' ty k v n xs:=by
 refine⟨h.1,?_⟩;rcases h.2 with h|⟨g',cap,cur,e,hb2,rest⟩
 · exact .inl h
 · exact .inr ⟨g',cap,cur,e,qBZ hb hb2,rest⟩
theorem qD7 {xs:List Value} (h:w.ownsRow base ty k v n xs):∃A c,v= .slice A n c:=by
 rcases h.2 with⟨rfl,rfl⟩|⟨g,cap,cur,rfl,-⟩
 · exact⟨_,_,rfl⟩
 · exact⟨_,_,rfl⟩
theorem qEi {v:World} (h:w.cell? ⟨g,i,none⟩=some u) (hb:Below w.heap.size w v):v.cell? ⟨g,i,none⟩=some u:=(hb.cell (p:=⟨g,i,none⟩) (qBR w _ h)).trans h
theorem qMP {x:Value} (h:w.cell? ⟨g,j,none⟩=some x) (hij:i≠j):(w.setCell ⟨g,i,none⟩ u).cell? ⟨g,j,none⟩=some x:=by
 have hne:(⟨g,i,none⟩:Addr)≠⟨g,j,none⟩:=fun e=>hij (congrArg Addr.off e);exact(World.cell?_setCell_other (w:=w) (a:=⟨g,i,none⟩) (b:=⟨g,j,none⟩) (v:=u) (h:=hne)).trans h
theorem qI1 (h:w.frozen? ⟨g,j,none⟩=false):(w.setCell ⟨g,i,none⟩ u).frozen? ⟨g,j,none⟩=false:=by
 rw[World.frozen?_setCell];exact h
theorem qIS {P:Nat→Prop} {ty:TypeId} (h:w.ownsRow base ty 1 v n cs) (hP:∀b,v.ownBlock=some b→P b):Part P w ty v cs:=by
 have hl:cs.length=n:=by have:=h.1;omega
 rcases h.2 with⟨rfl,rfl⟩|⟨g,cap,cur,rfl,hb,hg,hnc,hcm,hcs,ht⟩
 · exact zr
 · refine⟨some ⟨g,0,none⟩,cap,by rw[hl],by omega,hcm,fun _=>⟨g,cur,rfl,hP g rfl,hg,fun i u hu=> ?_⟩⟩
   exact zL
def HalfF (tg:Nat→Nat) (N B M k:Nat) (w:World) (v:Value) (xs:List Frm):Prop:=
 ∃css:List (List Value),css.length=xs.length∧w.ownsRow B 80 4 v xs.length css.flatten∧(∀b,v.ownBlock=some b→b<M)∧(∀b,tg b≠0→M≤b∧b<w.heap.size)∧∀(j:Nat) (x:Frm) (cs:List Value),xs[j]? =some x→css[j]? =some cs→(j<k→Frm1 (fun b=>tg b=2*j+6) (fun b=>tg b=2*j+7) w cs x)∧(¬j<k→frL.R (·<N) w cs x)
theorem HalfF.keep {w':World} (h:HalfF tg N B M k w v xs) (hN:N≤M) (hs:w.heap.size≤w'.heap.size) (hv:∀b,v.ownBlock=some b→w'.heap[b]? =w.heap[b]?) (hk:∀b,b<N∨(M≤b∧b<w.heap.size)→w'.heap[b]? =w.heap[b]?):HalfF tg N B M k w' v xs:=by
 obtain⟨css,h1,h2,h3,h4,h5⟩:=h;refine⟨css,h1,qBs h2 hv,h3,fun b hb=>⟨(h4 b hb).1,qBN (h4 b hb).2 hs⟩,fun j x cs e1 e2=>⟨fun hj=>((h5 j x cs e1 e2).1 hj).keep (fun b hb=>hk b (.inr (h4 b (by omega)))) (fun b hb=>hk b (.inr (h4 b (by omega)))) (fun b hb=>hb) fun b hb=>hb,fun hj=>frL.keep ((h5 j x cs e1 e2).2 hj) fun b hb=>hk b (.inl hb)⟩⟩
theorem HalfF.lt (h:HalfF tg N B M k w v xs):∀b,v.ownBlock=some b→b<M:=by
 obtain⟨css,-,-,h3,-⟩:=h;exact h3
theorem qHT (h:w.ownsRow base ty 1 v n cs) (hM:∀b,v.ownBlock=some b→M≤b∧b<w.heap.size):Part (New M w) w ty v cs:=by
 rcases h.2 with⟨rfl,rfl⟩|⟨g,cap,cur,rfl,hb,hg,hnc,hcm,hcs,ht⟩
 · obtain rfl:cs=[]:=qBY (by have:=h.1;omega)
   exact Part.nil _ _ _
 · exact qIS h fun b e=>⟨(hM b e).1,(hM b e).2,fun i=>by injection e with e;subst e;exact Blk.frozen hg i⟩
theorem HalfF.half (h:HalfF tg N B M k w v xs):Half frL 80 N B M k w v xs:=by
 obtain⟨css,h1,h2,h3,h4,h5⟩:=h;refine⟨css,h1,h2,h3,fun j x cs e1 e2=> ?_⟩
 by_cases hj:j<k
 · simp only[hj,if_true]
   obtain⟨v0,v1,rfl,a1,a2,a3,a4,a5,a6,a7⟩:=(h5 j x cs e1 e2).1 hj;have fz:∀{ty:TypeId} {g:Nat} {cur:Array Value} (i:Nat),Blk w g ty cur→w.frozen? ⟨g,i,none⟩=false:=fun i hb=>hb.frozen i;refine⟨v0,v1,rfl,a1,a2,?_,(qHT a6 fun b hb=>(h4 b (by rw[a7 b hb];omega))).words a4⟩;obtain⟨A,c,e,b1,b2,b3⟩:=a5;exact Part.words ⟨A,c,e,b1,b2,fun hp=>by
    obtain⟨g,cur,q1,q2,q3,q4⟩:=b3 hp;have q2:tg g=2*j+6:=q2;have:=h4 g (by omega);exact⟨g,cur,q1,⟨this.1,this.2,fun i=>q3.frozen i⟩,q3,q4⟩⟩ a3
 · simp only[hj,if_false]
   exact(h5 j x cs e1 e2).2 hj
theorem HalfF.step {c Z:Nat} {V:World} (hN:N≤B) (h:∃tg,HalfF tg N B M k V (.slice (some ⟨g,0,none⟩) n c) xs) (hb:Below V.heap.size V w) (hM:M≤V.heap.size) {x:Frm} (hj:xs[k]? =some x) (hcs:∀i u,cs[i]? =some u→w.cell? ⟨g,k*4+i,none⟩=some u) {u2 u3:Value} (hl:cs.length=4) (hZ:V.heap.size≤Z)
 (hR:Frm1 (fun b=>V.heap.size≤b∧b<Z) (fun b=>Z≤b∧b<w.heap.size) w ((cs.set 2 u2).set 3 u3) x) (hZ2:Z≤w.heap.size):
 ∃tg,HalfF tg N B M (k+1) ((w.setCell ⟨g,k*4+2,none⟩ u2).setCell ⟨g,k*4+3,none⟩ u3) (.slice (some ⟨g,0,none⟩) n c) xs:=by
 obtain⟨tg,css,h1,h2,h3,h4,h5⟩:=h;have hlt:k<xs.length:=(qBM.1 hj).1;have hg:=h3 g rfl;have hgN:N≤g:=qBZ hN (h2.lt g rfl).1;have hsz:=hb.size;have h2:=qBs (w':=w) h2 fun b e=>hb.block b (by have:=h3 b e;omega);have hk4:∀cs∈css,cs.length=4:=fun cs hc=>by
  refine qAs ?_;intro i hi hil;have q:=h5 i _ cs (List.getElem?_eq_getElem hil) hi
  by_cases hik:i<k
  · exact(q.1 hik).len
  · exact frL.len (q.2 hik)
 refine jm ?_;intro hck hnn;subst hnn;have o1:=(h2.stored (k*4+2) u2).1;rw[qCe hk4 hck (by omega) u2] at o1;have hk4':∀ds∈css.set k (cs.set 2 u2),ds.length=4:=fun ds hd=>by
  rcases List.mem_or_eq_of_mem_set hd with q|q
  · exact hk4 ds q
  · rw[q,List.length_set,hl]
 have o2:=(o1.stored (k*4+3) u3).1;rw[qCe hk4' (cs:=cs.set 2 u2) (by rw[List.getElem?_set];simp;omega) (by omega) u3,List.set_set] at o2;have hkb:∀b,b≠g→((w.setCell ⟨g,k*4+2,none⟩ u2).setCell ⟨g,k*4+3,none⟩ u3).heap[b]? =w.heap[b]? :=fun b hb=>(qBP _ _ _ _ hb).trans (qBP _ _ _ _ hb);have hs9:((w.setCell ⟨g,k*4+2,none⟩ u2).setCell ⟨g,k*4+3,none⟩ u3).heap.size=w.heap.size:=by simp[World.setCell]
 have hold:∀b,b<V.heap.size→b≠g→((w.setCell ⟨g,k*4+2,none⟩ u2).setCell ⟨g,k*4+3,none⟩ u3).heap[b]? =V.heap[b]? :=fun b h6 h7=>(hkb b h7).trans (hb.block b h6);refine⟨fun b=>if b<V.heap.size then tg b else if b<Z then 2*k+6 else if b<w.heap.size then 2*k+7 else 0,css.set k ((cs.set 2 u2).set 3 u3),by simp[h1],by simpa using o2,h3,fun b hb'=> ?_,fun j y ds e1 e2=> ?_⟩
 · rw[hs9]
   have hb':(if b<V.heap.size then tg b else if b<Z then 2*k+6 else if b<w.heap.size then 2*k+7 else 0)≠0:=hb';split at hb'
   · exact⟨(h4 b hb').1,by omega⟩
   · split at hb'
     · omega
     · split at hb'
       · omega
       · exact absurd rfl hb'
 · have tl:∀b,tg b≠0→(if b<V.heap.size then tg b else if b<Z then 2*k+6 else if b<w.heap.size then 2*k+7 else 0)=tg b:=fun b hb'=>if_pos (h4 b hb').2
   by_cases ejk:k=j
   · subst ejk
     rw[hj] at e1;injection e1 with e1;subst e1;rw[List.getElem?_set_self (by omega)] at e2;injection e2 with e2;subst e2;refine⟨fun _=>hR.keep (fun b hb'=>hkb b (by omega)) (fun b hb'=>hkb b (by omega)) (fun b hb'=> ?_) fun b hb'=> ?_,fun h=>absurd (Nat.lt_succ_self _) h⟩
     · have hb':V.heap.size≤b∧b<Z:=hb'
       show(if b<V.heap.size then tg b else if b<Z then 2*k+6 else if b<w.heap.size then 2*k+7 else 0)=_
       rw[if_neg (by omega),if_pos hb'.2]
     · have hb':Z≤b∧b<w.heap.size:=hb'
       show(if b<V.heap.size then tg b else if b<Z then 2*k+6 else if b<w.heap.size then 2*k+7 else 0)=_
       rw[if_neg (by omega),if_neg (by omega),if_pos hb'.2]
   · rw[List.getElem?_set_ne ejk] at e2
     obtain⟨q1,q2⟩:=h5 j y ds e1 e2;refine⟨fun hjk=>(q1 (by omega)).keep (fun b hb'=>hold b (h4 b (by omega)).2 (by have:=h4 b (by omega);omega)) (fun b hb'=>hold b (h4 b (by omega)).2 (by have:=h4 b (by omega);omega)) (fun b hb'=>(tl b (by omega)).trans hb') (fun b hb'=>(tl b (by omega)).trans hb'),fun hjk=>frL.keep (q2 (by omega)) fun b hb'=>hold b (by have:b<N:=hb';omega) (by have:b<N:=hb';omega)⟩
theorem HalfF.done (h:HalfF tg N B M xs.length w v xs):∃tg' css,Fr tg' w v css xs∧∀b,tg' b≠0→B≤b∧b<w.heap.size∨M≤b∧b<w.heap.size:=by
 classical
 obtain⟨css,h1,h2,h3,h4,h5⟩:=h;have hn:∀b,tg b≠0→v.ownBlock≠some b:=fun b hb e=>by have:=h3 b e;have:=h4 b hb;omega
 refine⟨fun b=>if v.ownBlock=some b then 5 else tg b,css,⟨h1,qDp h2 (qBU _),fun b e=>if_pos e,fun j x cs e1 e2=>((h5 j x cs e1 e2).1 (qBM.1 e1).1).keep (fun b _=>rfl) (fun b _=>rfl) (fun b hb=>(if_neg (hn b (by omega))).trans hb) fun b hb=>(if_neg (hn b (by omega))).trans hb⟩,fun b hb=> ?_⟩;have hb:(if v.ownBlock=some b then 5 else tg b)≠0:=hb;split at hb
 · exact .inl (h2.lt b (by assumption))
 · exact .inr (h4 b hb)
structure Cl (N M i j:Nat) (w:World) (v0 v1 v2:Value) (s:Stt):Prop where
 own:Blk w N 34 #[v0,v1,v2,.int .i64 s.quota,.int .i64 s.used,.int .i64 s.fin,.int .u64 (s.val:Int)]
 res:Blk w (N+1) 34 #[.slice none 0 0,.slice none 0 0,.slice none 0 0,.int .i64 0,.int .i64 0,.int .i64 0,.int .u64 0]
 low:N+2≤M∧M≤w.heap.size
 fr:∃tg,HalfF tg N (N+2) M i w v0 s.fr
 hp:Half obL 78 N (N+2) M j w v1 s.hp
 hn:w.ownsRow (N+2) 102 3 v2 s.hn.length (Hcs s.hn)∧∀b,v2.ownBlock=some b→b<M
 sep:(∀b,v0.ownBlock=some b→v1.ownBlock≠some b∧v2.ownBlock≠some b)∧∀b,v1.ownBlock=some b→v2.ownBlock≠some b
theorem Cl.below {w':World} {v0 v1 v2:Value} {s:Stt} (h:Cl N M i j w v0 v1 v2 s) (hb:Below w.heap.size w w'):Cl N M i j w' v0 v1 v2 s:=by
 have hs:=hb.size;have hl:=h.low;have hk:∀v:Value,(∀b,v.ownBlock=some b→b<M)→∀b,v.ownBlock=some b→w'.heap[b]? =w.heap[b]? :=fun v hv b e=>hb.block b (by have:=hv b e;omega);refine⟨(hb.block _ (by omega)).trans h.own,(hb.block _ (by omega)).trans h.res,⟨hl.1,by omega⟩,h.fr.elim fun tg q=>⟨tg,q.keep (by omega) hs (hk _ q.lt) fun b q=>hb.block b (by omega)⟩,h.hp.keep (by omega) hs (hk _ ?_) fun b q=>hb.block b (by omega),⟨qBs h.hn.1 (hk _ h.hn.2),h.hn.2⟩,h.sep⟩
 · obtain⟨css,-,-,h3,-⟩:=h.hp
   exact h3
theorem qGX (cs:List Value) (s:Stt) (w:World) (h:stL.R (·<w.heap.size) w cs s) (hz:s.low):
 Calls Tryz.prog 28 #[vAgg cs] w fun e w'=>∃v0 v1 v2 tg css,e= .returned (.agg #[v0,v1,v2,.int .i64 s.quota,.int .i64 s.used,.int .i64 s.fin,.int .u64 (s.val:Int)])∧stL.R (New w.heap.size w') w' [v0,v1,v2,.int .i64 s.quota,.int .i64 s.used,.int .i64 s.fin,.int .u64 (s.val:Int)] s∧Fr tg w' v0 css s.fr∧(∀b,tg b≠0→w.heap.size≤b∧b<w'.heap.size)∧Below w.heap.size w w':=by
 obtain⟨F,cf,O,co,H,ch,rfl,-,-,-,-,-,-,sF,sO,sH,i1,i2,i3,i4⟩:=qCV h;obtain⟨z1,z2,z3,z4,z5⟩:=hz;obtain⟨N,hN⟩:∃N,w.heap.size=N:=⟨_,rfl⟩;obtain⟨nf,hnf⟩:∃x,s.fr.length=x:=⟨_,rfl⟩;obtain⟨no,hno⟩:∃x,s.hp.length=x:=⟨_,rfl⟩;obtain⟨nh,hnh⟩:∃x,s.hn.length=x:=⟨_,rfl⟩;have HNF:=qBK hnf;have HNO:=qBK hno;have HNH:=qBK hnh;have HI:=qBK (And.intro i1 (And.intro i2 (And.intro i3 i4)));have HOK:=qBK (sq_ok sH);have HZ4:=qBK z4;have HZ5:=qBK z5;rw[hN] at sF sO sH;have C0:Hid (∀v,Below N w v→Calls Tryz.prog 64 #[.slice F nf cf] v fun e w'=>∃(A':Option Addr) (c':Nat) (css:List (List Value)),e= .returned (.slice A' nf c')∧css.length=nf∧w'.ownsRow v.heap.size 80 4 (.slice A' nf c') nf css.flatten∧(∀(j:Nat) (x:Frm) (cs:List Value),s.fr[j]? =some x→css[j]? =some cs→frL.R (·<N) w' cs x)∧Below v.heap.size v w'):=fun v hb=>qMN F nf cf s.fr v (·<N) (fun b hb'=>by have:=hb.size;show b<_;have:b<N:=hb';omega) hnf (sF.keep fun b hb'=>hb.block b hb') (by omega);have C1:Hid (∀v,Below N w v→Calls Tryz.prog 65 #[.slice O no co] v fun e w'=>∃(A':Option Addr) (c':Nat) (css:List (List Value)),e= .returned (.slice A' no c')∧css.length=no∧w'.ownsRow v.heap.size 78 4 (.slice A' no c') no css.flatten∧(∀(j:Nat) (x:Ob) (cs:List Value),s.hp[j]? =some x→css[j]? =some cs→obL.R (·<N) w' cs x)∧Below v.heap.size v w'):=fun v hb=>qML O no co s.hp v (·<N) (fun b hb'=>by have:=hb.size;show b<_;have:b<N:=hb';omega) hno (sO.keep fun b hb'=>hb.block b hb') (by omega);have C2:Hid (∀v,Below N w v→Calls Tryz.prog 66 #[.slice H nh ch] v fun e w'=>∃(A':Option Addr) (c':Nat) (css:List (List Value)),e= .returned (.slice A' nh c')∧css.length=nh∧w'.ownsRow v.heap.size 102 3 (.slice A' nh c') nh css.flatten∧(∀(j:Nat) (x:Hnd) (cs:List Value),s.hn[j]? =some x→css[j]? =some cs→hdL.R (·<N) w' cs x)∧Below v.heap.size v w'):=fun v hb=>qMM H nh ch s.hn v (·<N) (fun b hb'=>by have:=hb.size;show b<_;have:b<N:=hb';omega) hnh (sH.keep fun b hb'=>hb.block b hb') (by omega)
 show Calls Tryz.prog 28 #[.agg #[.slice F s.fr.length cf,.slice O s.hp.length co,.slice H s.hn.length ch,.int .i64 s.quota,.int .i64 s.used,.int .i64 s.fin,.int .u64 (s.val:Int)]] w _
 rw[hnf,hno,hnh];have HN:=qBK hN;rw[hN];have bnf:nf≤1000:=by omega
 have bno:no≤1000:=by omega
 clear h z1 z2 z3 z4 z5 sF sO sH i1 i2 i3 i4 hnf hno hnh
 go_enter Tryz.func28,Tryz.ntmps28
 go_upto_region 1 with(fail)
 refine qBV fun W hW=> ?_;have HB0:Hid (Below N w W):=by show Below _ _ _;rw[hW,←hN];exact((qBO _ _).alloc (qBL _) _).alloc (by simp) _
 have HK0:Hid (Blk W N 34 #[.slice F nf cf,.slice O no co,.slice H nh ch,.int .i64 s.quota,.int .i64 s.used,.int .i64 s.fin,.int .u64 (s.val:Int)]):=by show Blk _ _ _ _;rw[hW];exact qBc (qBl hN)
 refine qAm ?_;intro HK1 hsW;clear hW hN;have HSS:Hid (∀v,Below W.heap.size W v→v.cell? ⟨N,0,none⟩=some (.slice F nf cf)∧v.cell? ⟨N,1,none⟩=some (.slice O no co)∧v.cell? ⟨N,2,none⟩=some (.slice H nh ch)):=fun v hb=>⟨(qBf HK0.out hb (by omega)).cell 0,(qBf HK0.out hb (by omega)).cell 1,(qBf HK0.out hb (by omega)).cell 2⟩;have HBN:Hid (∀v,Below W.heap.size W v→Below N w v):=fun v hb=>HB0.out.trans (hb.mono (by omega));refine qJL 10 (fun v=>v.cell? ⟨N,0,none⟩=some (.slice F nf cf)∧v.cell? ⟨N,1,none⟩=some (.slice O no co)∧v.cell? ⟨N,2,none⟩=some (.slice H nh ch)) qR (HSS.out _ (qBO _ W).drew) (fun hHeld=> ?_);refine qCP (i:=0) (oi:=_) (v:= ?_) rfl qR qR qR (by decide) (fun _=>by assumption) (fun _ _ _ h=>h) (Or.inl ⟨by rfl,?_⟩) ?_;rotate_left
 · intro w _
   exact zO
 try simp only[Go.Act.put,List.setIfInBounds_toArray,List.set_cons_zero,List.set_cons_succ]
 refine qDn (i:=1) (oi:=_) (v:= ?_) rfl qR qR qR qR qR (fun _ _ _ h=>h) (Or.inl ⟨by rfl,?_⟩) (by assumption) ?_;rotate_left
 · intro w hSw
   try dsimp only at hSw
   exact zO
 try simp only[Go.Act.put,List.setIfInBounds_toArray,List.set_cons_zero,List.set_cons_succ]
 refine qCP (i:=3) (oi:=_) (v:= ?_) rfl qR qR qR (by decide) (fun _=>by assumption) (fun _ _ _ h=>h) (Or.inl ⟨by rfl,?_⟩) ?_;rotate_left
 · intro w _
   exact zO
 try simp only[Go.Act.put,List.setIfInBounds_toArray,List.set_cons_zero,List.set_cons_succ]
 refine qDn (i:=4) (oi:=_) (v:= ?_) rfl qR qR qR qR qR (fun _ _ _ h=>h) (Or.inl ⟨by rfl,?_⟩) (by assumption) ?_;rotate_left
 · intro w hSw
   try dsimp only at hSw
   exact zO
 try simp only[Go.Act.put,List.setIfInBounds_toArray,List.set_cons_zero,List.set_cons_succ]
 refine qCP (i:=6) (oi:=_) (v:= ?_) rfl qR qR qR (by decide) (fun _=>by assumption) (fun _ _ _ h=>h) (Or.inl ⟨by rfl,?_⟩) ?_;rotate_left
 · intro w _
   exact zO
 try simp only[Go.Act.put,List.setIfInBounds_toArray,List.set_cons_zero,List.set_cons_succ]
 refine qDn (i:=7) (oi:=_) (v:= ?_) rfl qR qR qR qR qR (fun _ _ _ h=>h) (Or.inl ⟨by rfl,?_⟩) (by assumption) ?_;rotate_left
 · intro w hSw
   try dsimp only at hSw
   exact zO
 try simp only[Go.Act.put,List.setIfInBounds_toArray,List.set_cons_zero,List.set_cons_succ]
 refine qCh (i:=2) (o:=_) qR rfl (fun K hK=> ?_)
 go_simp
 go_at_call 64
 (with_reducible refine(C0.out _ ?_).mono ?_)
 · exact HBN.out _ (qBO _ W).drew
 rintro e w5 ⟨A5,c5,css5,rfl,h5l,h5o,h5R,h5b⟩;have B5:Below W.heap.size W w5:=(qBO _ W).drew.trans h5b
 try dsimp only
 refine hK.out _ _ (fun _=>HSS.out _ B5) ?_;clear hK K hHeld;have hHeld:=HSS.out _ B5
 try simp only[Go.Act.put,List.setIfInBounds_toArray,List.set_cons_zero,List.set_cons_succ]
 refine qCP (i:=9) (oi:=_) (v:= ?_) rfl qR qR qR (by decide) (fun _=>by assumption) (fun _ _ _ h=>h) (Or.inl ⟨by rfl,?_⟩) ?_;rotate_left
 · intro w _
   exact zO
 try simp only[Go.Act.put,List.setIfInBounds_toArray,List.set_cons_zero,List.set_cons_succ]
 refine qCh (i:=5) (o:=_) qR rfl (fun K hK=> ?_)
 go_simp
 go_at_call 65
 (with_reducible refine(C1.out _ ?_).mono ?_)
 · exact HBN.out _ B5
 rintro e w6 ⟨A6,c6,css6,rfl,h6l,h6o,h6R,h6b⟩;have B6:Below W.heap.size W w6:=B5.trans (h6b.mono B5.size)
 try dsimp only
 refine hK.out _ _ (fun _=>HSS.out _ B6) ?_;clear hK K hHeld;have hHeld:=HSS.out _ B6
 try simp only[Go.Act.put,List.setIfInBounds_toArray,List.set_cons_zero,List.set_cons_succ]
 refine qCh (i:=8) (o:=_) qR rfl (fun K hK=> ?_)
 go_simp
 go_at_call 66
 (with_reducible refine(C2.out _ ?_).mono ?_)
 · exact HBN.out _ B6
 rintro e w7 ⟨A7,c7,css7,rfl,h7l,h7o,h7R,h7b⟩;have B7:Below W.heap.size W w7:=B6.trans (h7b.mono B6.size)
 try dsimp only
 refine hK.out _ _ (fun _=>HSS.out _ B7) ?_;clear hK K hHeld;have hHeld:=HSS.out _ B7
 try simp only[Go.Act.put,List.setIfInBounds_toArray,List.set_cons_zero,List.set_cons_succ]
 have b7:=qBf HK0.out B7 (by omega);have q0:=b7.cell 0;have p0:=b7.frozen 0;clear hHeld;refine qCh (i:=10) (o:=_) qR rfl (fun K hK=> ?_)
 go_simp
 refine hK.out _ _ (fun h=>absurd (show true=false from h) qp) ?_;clear hK K
 try simp only[Go.Act.put,List.setIfInBounds_toArray,List.set_cons_zero,List.set_cons_succ]
 refine qES (fun X1 hX1=> ?_);have b8:Blk X1 N 34 #[.slice A5 nf c5,.slice O no co,.slice H nh ch,.int .i64 s.quota,.int .i64 s.used,.int .i64 s.fin,.int .u64 (s.val:Int)]:=by rw[hX1];exact b7.set 0 _
 have hk1:∀b,b≠N→X1.heap[b]? =w7.heap[b]? :=fun b hb=>by rw[hX1];exact qBP _ _ _ _ hb
 have hs1:X1.heap.size=w7.heap.size:=by rw[hX1];simp[World.setCell]
 have ho1:X1.os=w7.os∧X1.tape=w7.tape∧X1.output=w7.output:=by rw[hX1];exact⟨rfl,rfl,rfl⟩
 clear hX1 q0 p0;have q1:=b8.cell 1;have p1:=b8.frozen 1;refine qCP (i:=11) (oi:=_) (v:= ?_) rfl qR qR qR (by decide) (fun h=>absurd (show true=false from h) (by decide)) (fun _ _ _ h=>h) (Or.inl ⟨by rfl,?_⟩) ?_;rotate_left
 · intro w _
   exact zO
 try simp only[Go.Act.put,List.setIfInBounds_toArray,List.set_cons_zero,List.set_cons_succ]
 refine qCh (i:=12) (o:=_) qR rfl (fun K hK=> ?_)
 go_simp
 refine hK.out _ _ (fun h=>absurd (show true=false from h) qp) ?_;clear hK K
 try simp only[Go.Act.put,List.setIfInBounds_toArray,List.set_cons_zero,List.set_cons_succ]
 refine qES (fun X2 hX2=> ?_);have b9:Blk X2 N 34 #[.slice A5 nf c5,.slice A6 no c6,.slice H nh ch,.int .i64 s.quota,.int .i64 s.used,.int .i64 s.fin,.int .u64 (s.val:Int)]:=by rw[hX2];exact b8.set 1 _
 have hk2:∀b,b≠N→X2.heap[b]? =X1.heap[b]? :=fun b hb=>by rw[hX2];exact qBP _ _ _ _ hb
 have hs2:X2.heap.size=X1.heap.size:=by rw[hX2];simp[World.setCell]
 have ho2:X2.os=X1.os∧X2.tape=X1.tape∧X2.output=X1.output:=by rw[hX2];exact⟨rfl,rfl,rfl⟩
 clear hX2 q1 p1;have q2:=b9.cell 2;have p2:=b9.frozen 2;refine qCP (i:=13) (oi:=_) (v:= ?_) rfl qR qR qR (by decide) (fun h=>absurd (show true=false from h) (by decide)) (fun _ _ _ h=>h) (Or.inl ⟨by rfl,?_⟩) ?_;rotate_left
 · intro w _
   exact zO
 try simp only[Go.Act.put,List.setIfInBounds_toArray,List.set_cons_zero,List.set_cons_succ]
 refine qCh (i:=14) (o:=_) qR rfl (fun K hK=> ?_)
 go_simp
 refine hK.out _ _ (fun h=>absurd (show true=false from h) qp) ?_;clear hK K
 try simp only[Go.Act.put,List.setIfInBounds_toArray,List.set_cons_zero,List.set_cons_succ]
 refine qES (fun X3 hX3=> ?_);have b10:Blk X3 N 34 #[.slice A5 nf c5,.slice A6 no c6,.slice A7 nh c7,.int .i64 s.quota,.int .i64 s.used,.int .i64 s.fin,.int .u64 (s.val:Int)]:=by rw[hX3];exact b9.set 2 _
 have hk3:∀b,b≠N→X3.heap[b]? =w7.heap[b]? :=fun b hb=>by rw[hX3,qBP _ _ _ _ hb,hk2 b hb,hk1 b hb]
 have hs3:X3.heap.size=w7.heap.size:=by rw[hX3];simp[World.setCell];omega
 have ho3:X3.os=w7.os∧X3.tape=w7.tape∧X3.output=w7.output:=by rw[hX3];exact⟨ho2.1.trans ho1.1,ho2.2.1.trans ho1.2.1,ho2.2.2.trans ho1.2.2⟩
 clear hX3 q2 p2;obtain⟨M,hM⟩:∃M,w7.heap.size=M:=⟨_,rfl⟩;have s5:=h5b.size;have s6:=h6b.size;have s7:=h7b.size;have hw:w5.heap.size≤w6.heap.size∧w6.heap.size≤M∧N+2≤w5.heap.size:=by have:W.drew.heap.size=W.heap.size:=rfl;omega
 have HB3:Hid (Below N w X3):=by
  have hb:=HBN.out _ B7;exact⟨ho3.1.trans hb.os,ho3.2.1.trans hb.tape,ho3.2.2.trans hb.output,by have:=hb.size;omega,fun b hb'=>(hk3 b (by omega)).trans (hb.block b hb')⟩
 have HCl:Hid (Cl N M 0 0 X3 (.slice A5 nf c5) (.slice A6 no c6) (.slice A7 nh c7) s):=by
  have k5:∀b,b≠N→b<w5.heap.size→X3.heap[b]? =w5.heap[b]? :=fun b h1 h2=>(hk3 b h1).trans ((h7b.block b (by omega)).trans (h6b.block b h2));have k6:∀b,b≠N→b<w6.heap.size→X3.heap[b]? =w6.heap[b]? :=fun b h1 h2=>(hk3 b h1).trans (h7b.block b h2);have e7:css7.flatten=Hcs s.hn:=qFx (by rw[h7l,HNH.out]) h7R;refine⟨b10,(hk3 _ (by omega)).trans (qBf HK1.out B7 (by omega)),⟨by omega,by omega⟩,⟨fun _=>0,css5,by rw[h5l,HNF.out],?_,fun b e=> ?_,fun b hb=>absurd rfl hb,fun j x cs e1 e2=>⟨fun h=>absurd h (Nat.not_lt_zero _),fun _=> ?_⟩⟩,⟨css6,by rw[h6l,HNO.out],?_,fun b e=> ?_,fun j x cs e1 e2=> ?_⟩,⟨?_,fun b e=> ?_⟩,fun b e=>⟨fun e'=> ?_,fun e'=> ?_⟩,fun b e e'=> ?_⟩
  · rw[HNF.out]
    exact qDp (qBs h5o fun b e=>k5 b (by have:=(h5o.lt b e).1;have:W.drew.heap.size=W.heap.size:=rfl;omega) (h5o.lt b e).2) (by have:W.drew.heap.size=W.heap.size:=rfl;omega)
  · have:=(h5o.lt b e).2;omega
  · exact frL.keep (h5R j x cs e1 e2) fun b hb=>k5 b (by omega) (by omega)
  · rw[HNO.out]
    exact qDp (qBs h6o fun b e=>k6 b (by have:=(h6o.lt b e).1;omega) (h6o.lt b e).2) (by omega)
  · have:=(h6o.lt b e).2;omega
  · simp only[Nat.not_lt_zero,if_false]
    exact obL.keep (h6R j x cs e1 e2) fun b hb=>k6 b (by omega) (by omega)
  · rw[HNH.out,←e7]
    exact qDp (qBs h7o fun b e=>hk3 b (by have:=(h7o.lt b e).1;omega)) (by omega)
  · have:=(h7o.lt b e).2;omega
  · have:=(h5o.lt b e).2;have:=(h6o.lt b e').1;omega
  · have:=(h5o.lt b e).2;have:=(h7o.lt b e').1;omega
  · have:=(h6o.lt b e).2;have:=(h7o.lt b e').1;omega
 have HKM:Hid (N+2≤M):=HCl.out.low.1;clear h5l h5o h5R h5b h6l h6o h6R h6b h7l h7o h7R h7b B5 B6 B7 b7 b8 b9 b10 hk1 hk2 hk3 hs1 hs2 hs3 ho1 ho2 ho3 s5 s6 s7 hw hM HK0 HK1 HB0 HSS HBN hsW;have y0:=HCl.out.own.cell 0;refine qHv qR ?_ _
 go_simp
 go_wp2_with fail
 clear y0
 go_loopw [22] (fun i wr=>∃k:Nat,k≤nf∧i= .int .i64 (k:Nat)∧Below N w wr∧Cl N M k 0 wr (.slice A5 nf c5) (.slice A6 no c6) (.slice A7 nh c7) s) (fun i _=>nf-(intOf i).toNat)
 case atStart=>exact⟨0,qBU _,rfl,HB3.out,HCl.out⟩
 case round=>
  obtain⟨wf,eW⟩:∃wf,wf=wr:=⟨_,rfl⟩;subst eW;obtain⟨k,hk,rfl,hbel,hcl⟩:=hrel;have HB:=qBK hbel;have HC:=qBK hcl;clear hbel hcl HB3 HCl
  by_cases hlt:k<nf
  · as_aux_lemma=>
    obtain⟨f,hf⟩:∃f,s.fr[k]? =some f:=⟨s.fr[k]'(by rw[HNF.out];exact hlt),List.getElem?_eq_getElem _⟩;obtain⟨g,cs,eA,-,hgB,hgM,hgs,hcc,hfz,hR⟩:=Half.at rfl HC.out.fr.choose_spec.half hf;subst eA;simp only[Nat.lt_irrefl,if_false] at hR;obtain⟨P0,e0,P1,e1,rfl,la1,la2,lb1,lb2,sqa,sqb,j1,j2⟩:=qDS hR;have hsm:=HZ4.out f (qBQ hf);have q0:=hcc 0 _ rfl;have q1:=hcc 1 _ rfl;have q2:=hcc 2 _ rfl;have q3:=hcc 3 _ rfl;rw[Nat.add_zero] at q0;obtain⟨la,hla⟩:∃x,f.locs.length=x:=⟨_,rfl⟩;obtain⟨lb,hlb⟩:∃x,f.stk.length=x:=⟨_,rfl⟩;have HLA:=qBK hla;have HLB:=qBK hlb;have HF:=qBK hf;have HCC:=qBK hcc;have CA:Hid (∀v,Below N w v→Below wf.heap.size wf v→Calls Tryz.prog 67 #[.slice P0 la e0] v fun e w'=>∃v',e= .returned v'∧w'.ownsRow v.heap.size 32 1 v' la (Ns f.locs)∧Below v.heap.size v w'):=fun v hb hb2=>qDd P0 la e0 f.locs v hla ((sqa.keep fun b hb'=>hb2.block b (by have:b<N:=hb';omega)).wide fun b hb'=>by have:b<N:=hb';have:=hb.size;have:=HN.out;show b<_;omega) (by have:=hsm.1;omega);have CB:Hid (∀v,Below N w v→Below wf.heap.size wf v→Calls Tryz.prog 67 #[.slice P1 lb e1] v fun e w'=>∃v',e= .returned v'∧w'.ownsRow v.heap.size 32 1 v' lb (Ns f.stk)∧Below v.heap.size v w'):=fun v hb hb2=>qDd P1 lb e1 f.stk v hlb ((sqb.keep fun b hb'=>hb2.block b (by have:b<N:=hb';omega)).wide fun b hb'=>by have:b<N:=hb';have:=hb.size;have:=HN.out;show b<_;omega) (by have:=hsm.2;omega);have HPR:Hid (∀(w2:World) (va vb:Value) (ba bb:Nat),w2.ownsRow ba 32 1 va la (Ns f.locs)→(∀b,va.ownBlock=some b→ba≤b∧b<bb)→w2.ownsRow bb 32 1 vb lb (Ns f.stk)→Frm1 (fun b=>ba≤b∧b<bb) (fun b=>bb≤b∧b<w2.heap.size) w2 [.int .i64 f.fn,.int .i64 f.pc,va,vb] f):=fun w2 va vb ba bb h3 h1 h4=>⟨va,vb,rfl,j1,j2,qEP sqa,qEP sqb,qIS h3 h1,by rw[hlb];exact qDp h4 (qBU _),h4.lt⟩;rw[hla] at q2;rw[hlb] at q3;obtain⟨x1,hx1⟩:∃x,f.fn=x:=⟨_,rfl⟩;obtain⟨x2,hx2⟩:∃x,f.pc=x:=⟨_,rfl⟩;rw[hx1] at q0 HCC HPR;rw[hx2] at q1 HCC HPR;rw[hla,hlb] at HCC;have k0:(0:Int)≤(k:Int):=by omega
    have k1:(k:Int)<(nf:Int):=by omega
    have HFZ:=qBK hfz;have HGG:=qBK (And.intro hgB (And.intro hgM hgs));have b0:=HC.out.own.cell 0;clear hR la1 la2 lb1 lb2 sqa sqb j1 j2 hsm hla hlb hx1 hx2 hcc hf hfz
    go_upto_region 5 with(fail)
    refine qBV fun V hV=> ?_;obtain⟨G,hG⟩:∃G,wf.heap.size=G:=⟨_,rfl⟩;have hBV:Below wf.heap.size wf V:=by rw[hV];exact(qBO _ _).alloc (qBL _) _
    have hKV:Blk V G 80 #[.int .i64 x1,.int .i64 x2,.slice P0 la e0,.slice P1 lb e1]:=by rw[hV];exact qBl hG
    have hsV:V.heap.size=G+1:=by rw[hV];simp;omega
    have HBV:=qBK hBV;have HKV:=qBK hKV;have HCV:Hid (Cl N M k 0 V (.slice (some ⟨g,0,none⟩) nf c5) (.slice A6 no c6) (.slice A7 nh c7) s):=HC.out.below hBV;rw[hG];have hgG:g<G:=by omega
    clear hV hBV hKV q0 q1 q2 q3 b0;have HBN:Hid (∀v,Below V.heap.size V v→Below N w v∧Below wf.heap.size wf v):=fun v hb=>by
     have:=HBV.out.trans (hb.mono (by omega));exact⟨HB.out.trans (this.mono (by have:=HC.out.low;omega)),this⟩
    have HSS:Hid (∀v,Below V.heap.size V v→v.cell? ⟨N,0,none⟩=some (.slice (some ⟨g,0,none⟩) nf c5)∧v.cell? ⟨G,2,none⟩=some (.slice P0 la e0)∧v.cell? ⟨G,3,none⟩=some (.slice P1 lb e1)):=fun v hb=>⟨(qBf HCV.out.own hb (by omega)).cell 0,(qBf HKV.out hb (by omega)).cell 2,(qBf HKV.out hb (by omega)).cell 3⟩;have HSU:Hid (∀(v:World) (i:Nat) (u:Value),(v.cell? ⟨N,0,none⟩=some (.slice (some ⟨g,0,none⟩) nf c5)∧v.cell? ⟨G,2,none⟩=some (.slice P0 la e0)∧v.cell? ⟨G,3,none⟩=some (.slice P1 lb e1))→(fun v:World=>v.cell? ⟨N,0,none⟩=some (.slice (some ⟨g,0,none⟩) nf c5)∧v.cell? ⟨G,2,none⟩=some (.slice P0 la e0)∧v.cell? ⟨G,3,none⟩=some (.slice P1 lb e1)) (v.setCell ⟨g,i,none⟩ u)):=fun v i u h=>by
     refine qAr ?_;intro hN2 e;exact⟨(e _ _ (by omega)).trans h.1,(e _ _ (by omega)).trans h.2.1,(e _ _ (by omega)).trans h.2.2⟩
    go_region_held3 (fun v=>v.cell? ⟨N,0,none⟩=some (.slice (some ⟨g,0,none⟩) nf c5)∧v.cell? ⟨G,2,none⟩=some (.slice P0 la e0)∧v.cell? ⟨G,3,none⟩=some (.slice P1 lb e1))
     (first|exact HSS.out _ (qBO _ V).drew|(have hz:=HB8.out;clear hz;first|(have hz:=HB9.out;clear hz;first|exact HSS.out _ HB9.out|exact HSU.out _ _ _ (HSS.out _ HB9.out)|exact HSU.out _ _ _ (HSU.out _ _ _ (HSS.out _ HB9.out)))|exact HSS.out _ HB8.out))
     (first
     |(go_at_call 67
       (with_reducible refine(CA.out _ ?_ ?_).mono ?_)
       · exact(HBN.out _ (qBO _ V).drew).1
       · exact(HBN.out _ (qBO _ V).drew).2
       rintro e w8 ⟨v8,rfl,ho8,hb8⟩;obtain⟨A8,c8,rfl⟩:=qD7 ho8;have HB8:Hid (Below V.heap.size V w8):=(qBO _ V).drew.trans hb8;have HO8:Hid (w8.ownsRow V.heap.size 32 1 (.slice A8 la c8) la (Ns f.locs)):=ho8;clear ho8 hb8)
     |(go_at_call 67
       (with_reducible refine(CB.out _ ?_ ?_).mono ?_)
       · exact(HBN.out _ HB8.out).1
       · exact(HBN.out _ HB8.out).2
       rintro e w9 ⟨v9,rfl,ho9,hb9⟩;obtain⟨A9,c9,rfl⟩:=qD7 ho9;refine jT ?_;intro HB9 HB89 HO9 q2 q3 p2 p3;clear ho9 hb9))
    go_wp2_with fail
    refine⟨⟨k+1,by omega,by simp,?_,?_⟩,by simp[intOf];omega⟩
    · exact(((HBN.out _ HB9.out).1.setCell (by show N≤g;omega) _).setCell (by show N≤g;omega) _)
    · refine jw ?_;intro hc9 hM hk9 hs9
      have hO8:w9.ownsRow V.heap.size 32 1 (.slice A8 la c8) la (Ns f.locs):=qBs HO8.out fun b e=>HB89.out.block b (HO8.out.lt b e).2;have h9:=HB8.out.size;refine⟨(hk9 _ (by omega)).trans hc9.own,(hk9 _ (by omega)).trans hc9.res,⟨hc9.low.1,by rw[hs9];exact hc9.low.2⟩,HalfF.step (by omega) HCV.out.fr HB9.out (by omega) HF.out (cs:=[.int .i64 x1,.int .i64 x2,.slice P0 la e0,.slice P1 lb e1]) ?_ rfl h9 ?_ HB89.out.size,hc9.hp.keep (by omega) (by rw[hs9];exact qBL _) (fun b e=>hk9 b (fun e'=>by subst e';exact(hc9.sep.1 b rfl).1 e)) (fun b hb=>hk9 b (by omega)),⟨qBs hc9.hn.1 fun b e=>hk9 b (fun e'=>by subst e';exact(hc9.sep.1 b rfl).2 e),hc9.hn.2⟩,hc9.sep⟩
      · exact fun i u hu=>qEi (HCC.out i u hu) (HBN.out _ HB9.out).2
      · exact HPR.out w9 _ _ V.heap.size w8.heap.size hO8 (fun b e=>HO8.out.lt b e) HO9.out
  · obtain rfl:nf=k:=by omega
    have HB4:=HB;have HCl4:=HC;clear HB HC;have y1:=HCl4.out.own.cell 1
    go_wp2_with fail
    clear y1
    go_loopw [47] (fun i wr=>∃k:Nat,k≤no∧i= .int .i64 (k:Nat)∧Below N w wr∧Cl N M nf k wr (.slice A5 nf c5) (.slice A6 no c6) (.slice A7 nh c7) s) (fun i _=>no-(intOf i).toNat)
    case atStart=>exact⟨0,qBU _,rfl,HB4.out,HCl4.out⟩
    case round=>
     obtain⟨wf,eW⟩:∃wf,wf=wr:=⟨_,rfl⟩;subst eW;obtain⟨k,hk,rfl,hbel,hcl⟩:=hrel;have HB:=qBK hbel;have HC:=qBK hcl;clear hbel hcl HB4 HCl4
     by_cases hlt:k<no
     · as_aux_lemma=>
       obtain⟨f,hf⟩:∃f,s.hp[k]? =some f:=⟨s.hp[k]'(by rw[HNO.out];exact hlt),List.getElem?_eq_getElem _⟩;obtain⟨g,cs,eA,-,hgB,hgM,hgs,hcc,hfz,hR⟩:=Half.at rfl HC.out.hp hf;subst eA;simp only[Nat.lt_irrefl,if_false] at hR;obtain⟨P0,e0,P1,e1,rfl,la1,la2,lb1,lb2,sqa,sqb,hb256,j1,j2⟩:=qC7 hR;have hsm:=HZ5.out f (qBQ hf);have q0:=hcc 0 _ rfl;have q1:=hcc 1 _ rfl;have q2:=hcc 2 _ rfl;have q3:=hcc 3 _ rfl;rw[Nat.add_zero] at q0;obtain⟨la,hla⟩:∃x,f.words.length=x:=⟨_,rfl⟩;obtain⟨lb,hlb⟩:∃x,f.bytes.length=x:=⟨_,rfl⟩;have HLA:=qBK hla;have HLB:=qBK hlb;have HF:=qBK hf;have HCC:=qBK hcc;have CA:Hid (∀v,Below N w v→Below wf.heap.size wf v→Calls Tryz.prog 67 #[.slice P0 la e0] v fun e w'=>∃v',e= .returned v'∧w'.ownsRow v.heap.size 32 1 v' la (Ns f.words)∧Below v.heap.size v w'):=fun v hb hb2=>qDd P0 la e0 f.words v hla ((sqa.keep fun b hb'=>hb2.block b (by have:b<N:=hb';omega)).wide fun b hb'=>by have:b<N:=hb';have:=hb.size;have:=HN.out;show b<_;omega) (by have:=hsm.1;omega);have CB:Hid (∀v,Below N w v→Below wf.heap.size wf v→Calls Tryz.prog 68 #[.slice P1 lb e1] v fun e w'=>∃v',e= .returned v'∧w'.ownsRow v.heap.size 5 1 v' lb (Bs f.bytes)∧Below v.heap.size v w'):=fun v hb hb2=>qF9 P1 lb e1 f.bytes v hlb ((sqb.keep fun b hb'=>hb2.block b (by have:b<N:=hb';omega)).wide fun b hb'=>by have:b<N:=hb';have:=hb.size;have:=HN.out;show b<_;omega) (by have:=hsm.2;omega);have HPR:Hid (∀(w2:World) (va vb:Value) (M0 ba bb:Nat),M0≤ba→M0≤bb→w2.ownsRow ba 32 1 va la (Ns f.words)→w2.ownsRow bb 5 1 vb lb (Bs f.bytes)→obL.R (New M0 w2) w2 [.int .i64 f.kind,.int .i64 f.n,va,vb] f):=fun w2 va vb M0 ba bb h1 h2 h3 h4=>⟨va,vb,rfl,j1,j2,(qKw h3 h1).words (qEP sqa),(qKw h4 h2).bytes hb256⟩;rw[hla] at q2;rw[hlb] at q3;obtain⟨x1,hx1⟩:∃x,f.kind=x:=⟨_,rfl⟩;obtain⟨x2,hx2⟩:∃x,f.n=x:=⟨_,rfl⟩;rw[hx1] at q0 HCC HPR;rw[hx2] at q1 HCC HPR;rw[hla,hlb] at HCC;have k0:(0:Int)≤(k:Int):=by omega
       have k1:(k:Int)<(no:Int):=by omega
       have HFZ:=qBK hfz;have HGG:=qBK (And.intro hgB (And.intro hgM hgs));have b0:=HC.out.own.cell 1;clear hR la1 la2 lb1 lb2 sqa sqb hb256 j1 j2 hsm hla hlb hx1 hx2 hcc hf hfz
       go_upto_region 10 with(fail)
       refine qBV fun V hV=> ?_;obtain⟨G,hG⟩:∃G,wf.heap.size=G:=⟨_,rfl⟩;have hBV:Below wf.heap.size wf V:=by rw[hV];exact(qBO _ _).alloc (qBL _) _
       have hKV:Blk V G 78 #[.int .i64 x1,.int .i64 x2,.slice P0 la e0,.slice P1 lb e1]:=by rw[hV];exact qBl hG
       have hsV:V.heap.size=G+1:=by rw[hV];simp;omega
       have HBV:=qBK hBV;have HKV:=qBK hKV;have HCV:Hid (Cl N M nf k V (.slice A5 nf c5) (.slice (some ⟨g,0,none⟩) no c6) (.slice A7 nh c7) s):=HC.out.below hBV;rw[hG];have hgG:g<G:=by omega
       clear hV hBV hKV q0 q1 q2 q3 b0;have HBN:Hid (∀v,Below V.heap.size V v→Below N w v∧Below wf.heap.size wf v):=fun v hb=>by
        have:=HBV.out.trans (hb.mono (by omega));exact⟨HB.out.trans (this.mono (by have:=HC.out.low;omega)),this⟩
       have HSS:Hid (∀v,Below V.heap.size V v→v.cell? ⟨N,1,none⟩=some (.slice (some ⟨g,0,none⟩) no c6)∧v.cell? ⟨G,2,none⟩=some (.slice P0 la e0)∧v.cell? ⟨G,3,none⟩=some (.slice P1 lb e1)):=fun v hb=>⟨(qBf HCV.out.own hb (by omega)).cell 1,(qBf HKV.out hb (by omega)).cell 2,(qBf HKV.out hb (by omega)).cell 3⟩;have HSU:Hid (∀(v:World) (i:Nat) (u:Value),(v.cell? ⟨N,1,none⟩=some (.slice (some ⟨g,0,none⟩) no c6)∧v.cell? ⟨G,2,none⟩=some (.slice P0 la e0)∧v.cell? ⟨G,3,none⟩=some (.slice P1 lb e1))→(fun v:World=>v.cell? ⟨N,1,none⟩=some (.slice (some ⟨g,0,none⟩) no c6)∧v.cell? ⟨G,2,none⟩=some (.slice P0 la e0)∧v.cell? ⟨G,3,none⟩=some (.slice P1 lb e1)) (v.setCell ⟨g,i,none⟩ u)):=fun v i u h=>by
        refine qAr ?_;intro hN2 e;exact⟨(e _ _ (by omega)).trans h.1,(e _ _ (by omega)).trans h.2.1,(e _ _ (by omega)).trans h.2.2⟩
       go_region_held3 (fun v=>v.cell? ⟨N,1,none⟩=some (.slice (some ⟨g,0,none⟩) no c6)∧v.cell? ⟨G,2,none⟩=some (.slice P0 la e0)∧v.cell? ⟨G,3,none⟩=some (.slice P1 lb e1))
        (first|exact HSS.out _ (qBO _ V).drew|(have hz:=HB8.out;clear hz;first|(have hz:=HB9.out;clear hz;first|exact HSS.out _ HB9.out|exact HSU.out _ _ _ (HSS.out _ HB9.out)|exact HSU.out _ _ _ (HSU.out _ _ _ (HSS.out _ HB9.out)))|exact HSS.out _ HB8.out))
        (first
        |(go_at_call 67
          (with_reducible refine(CA.out _ ?_ ?_).mono ?_)
          · exact(HBN.out _ (qBO _ V).drew).1
          · exact(HBN.out _ (qBO _ V).drew).2
          rintro e w8 ⟨v8,rfl,ho8,hb8⟩;obtain⟨A8,c8,rfl⟩:=qD7 ho8;have HB8:Hid (Below V.heap.size V w8):=(qBO _ V).drew.trans hb8;have HO8:Hid (w8.ownsRow V.heap.size 32 1 (.slice A8 la c8) la (Ns f.words)):=ho8;clear ho8 hb8)
        |(go_at_call 68
          (with_reducible refine(CB.out _ ?_ ?_).mono ?_)
          · exact(HBN.out _ HB8.out).1
          · exact(HBN.out _ HB8.out).2
          rintro e w9 ⟨v9,rfl,ho9,hb9⟩;obtain⟨A9,c9,rfl⟩:=qD7 ho9;refine jT ?_;intro HB9 HB89 HO9 q2 q3 p2 p3;clear ho9 hb9))
       go_wp2_with fail
       refine⟨⟨k+1,by omega,by simp,?_,?_⟩,by simp[intOf];omega⟩
       · exact(((HBN.out _ HB9.out).1.setCell (by show N≤g;omega) _).setCell (by show N≤g;omega) _)
       · refine jw ?_;intro hc9 hM hk9 hs9
         have hO8:w9.ownsRow V.heap.size 32 1 (.slice A8 la c8) la (Ns f.words):=qBs HO8.out fun b e=>HB89.out.block b (HO8.out.lt b e).2;have h9:=HB8.out.size;refine⟨(hk9 _ (by omega)).trans hc9.own,(hk9 _ (by omega)).trans hc9.res,⟨hc9.low.1,by rw[hs9];exact hc9.low.2⟩,hc9.fr.elim fun tg q=>⟨tg,q.keep (by omega) (by rw[hs9];exact qBL _) (fun b e=>hk9 b (fun e'=>by subst e';exact(hc9.sep.1 b e).1 rfl)) (fun b hb=>hk9 b (by omega))⟩,Half.step rfl (by omega) hc9.hp HF.out (cs:=[.int .i64 x1,.int .i64 x2,.slice P0 la e0,.slice P1 lb e1]) ?_ rfl ?_,⟨qBs hc9.hn.1 fun b e=>hk9 b (fun e'=>by subst e';exact hc9.sep.2 b rfl e),hc9.hn.2⟩,hc9.sep⟩
         · exact fun i u hu=>qEi (HCC.out i u hu) (HBN.out _ HB9.out).2
         · exact HPR.out w9 _ _ M V.heap.size w8.heap.size (by omega) (by omega) hO8 HO9.out
     · obtain rfl:no=k:=by omega
       have h0:=HC.out.own.cell 0;have h1:=HC.out.own.cell 1;have h2:=HC.out.own.cell 2;have h3:=HC.out.own.cell 3;have h4:=HC.out.own.cell 4;have h5:=HC.out.own.cell 5;have h6:=HC.out.own.cell 6;have r0:=HC.out.res.cell 0;have r1:=HC.out.res.cell 1;have r2:=HC.out.res.cell 2;have r3:=HC.out.res.cell 3;have r4:=HC.out.res.cell 4;have r5:=HC.out.res.cell 5;have r6:=HC.out.res.cell 6;have f0:=HC.out.res.frozen 0;have f1:=HC.out.res.frozen 1;have f2:=HC.out.res.frozen 2;have f3:=HC.out.res.frozen 3;have f4:=HC.out.res.frozen 4;have f5:=HC.out.res.frozen 5;have f6:=HC.out.res.frozen 6;have HFR:Hid (∃tg' css,Fr tg' wf (.slice A5 nf c5) css s.fr∧∀b,tg' b≠0→N+2≤b∧b<wf.heap.size):=by
        obtain⟨tgf,hfr⟩:=HC.out.fr;have hl:=HC.out.low.1;have hnf:=HNF.out;subst hnf;obtain⟨tg',css,q1,q2⟩:=hfr.done;exact⟨tg',css,q1,fun b hb=>(q2 b hb).elim id fun q=>by omega⟩
       go_wp2_with fail
       refine bodyPost_ret (v:= .agg #[.slice A5 nf c5,.slice A6 no c6,.slice A7 nh c7,.int .i64 s.quota,.int .i64 s.used,.int .i64 s.fin,.int .u64 (s.val:Int)]) (by simp[results,Tryz.results28,go_sem,h0,h1,h2,h3,h4,h5,h6,r0,r1,r2,r3,r4,r5,r6]) rfl ⟨.slice A5 nf c5,.slice A6 no c6,.slice A7 nh c7,HFR.out.choose,HFR.out.choose_spec.choose,rfl,?_,?_,?_,?_⟩
       · have hf0:(slL frL).R (New (N+2) wf) wf [.slice A5 nf c5] s.fr:=by
          have:=HC.out.fr.choose_spec.half;rw[←HNF.out] at this;have:=Half.done rfl HC.out.low.1 this
          rwa [HNF.out] at this
         have hp0:(slL obL).R (New (N+2) wf) wf [.slice A6 no c6] s.hp:=by
          have:=HC.out.hp;rw[←HNO.out] at this;have:=Half.done rfl HC.out.low.1 this
          rwa [HNO.out] at this
         have hn0:(slL hdL).R (New (N+2) wf) wf [.slice A7 nh c7] s.hn:=by
          have ho:=HC.out.hn.1;obtain⟨A,c,e,h1,h2,h3⟩:=qHb ho HOK.out;rcases Nat.eq_zero_or_pos s.hn.length with hz|hpos
          · rw[qBY hz] at e h1⊢
            exact⟨A,c,by rw[e],h1,h2,Sq.nil _ _ _ _⟩
          refine⟨A,c,by rw[e],h1,h2,h3.wide fun b hb=>⟨hb.2.1,hb.2.2,fun i=> ?_⟩⟩;rw[e] at ho hb;obtain⟨g,c',e',-,-⟩:=qCQ ho hpos;simp only[Value.slice.injEq] at e';obtain⟨rfl,-,rfl⟩:=e';obtain rfl:g=b:=by simpa[Value.ownBlock] using hb.1
          exact ho.frozenAt i
         have hk:∀b,b≠N+1→(((((((wf.setCell ⟨N+1,0,none⟩ (.slice A5 nf c5)).setCell ⟨N+1,1,none⟩ (.slice A6 no c6)).setCell ⟨N+1,2,none⟩ (.slice A7 nh c7)).setCell ⟨N+1,3,none⟩ (.int .i64 s.quota)).setCell ⟨N+1,4,none⟩ (.int .i64 s.used)).setCell ⟨N+1,5,none⟩ (.int .i64 s.fin)).setCell ⟨N+1,6,none⟩ (.int .u64 (s.val:Int))).heap[b]? =wf.heap[b]? :=fun b hb=>by
          repeat(first|with_reducible exact rfl|(with_reducible refine(qBP _ _ _ _ ?_).trans ?_;exact hb))
         have hs:(((((((wf.setCell ⟨N+1,0,none⟩ (.slice A5 nf c5)).setCell ⟨N+1,1,none⟩ (.slice A6 no c6)).setCell ⟨N+1,2,none⟩ (.slice A7 nh c7)).setCell ⟨N+1,3,none⟩ (.int .i64 s.quota)).setCell ⟨N+1,4,none⟩ (.int .i64 s.used)).setCell ⟨N+1,5,none⟩ (.int .i64 s.fin)).setCell ⟨N+1,6,none⟩ (.int .u64 (s.val:Int))).heap.size=wf.heap.size:=by simp[World.setCell]
         have hw:∀b,New (N+2) wf b→New N (((((((wf.setCell ⟨N+1,0,none⟩ (.slice A5 nf c5)).setCell ⟨N+1,1,none⟩ (.slice A6 no c6)).setCell ⟨N+1,2,none⟩ (.slice A7 nh c7)).setCell ⟨N+1,3,none⟩ (.int .i64 s.quota)).setCell ⟨N+1,4,none⟩ (.int .i64 s.used)).setCell ⟨N+1,5,none⟩ (.int .i64 s.fin)).setCell ⟨N+1,6,none⟩ (.int .u64 (s.val:Int))) b:=fun b hb=>by
          have:=hb.keep (w':=(((((((wf.setCell ⟨N+1,0,none⟩ (.slice A5 nf c5)).setCell ⟨N+1,1,none⟩ (.slice A6 no c6)).setCell ⟨N+1,2,none⟩ (.slice A7 nh c7)).setCell ⟨N+1,3,none⟩ (.int .i64 s.quota)).setCell ⟨N+1,4,none⟩ (.int .i64 s.used)).setCell ⟨N+1,5,none⟩ (.int .i64 s.fin)).setCell ⟨N+1,6,none⟩ (.int .u64 (s.val:Int)))) (hk b (by have:=hb.1;omega)) (by rw[hs];exact qBL _);exact⟨by have:=this.1;omega,this.2⟩
         have hkk:∀b,New (N+2) wf b→(((((((wf.setCell ⟨N+1,0,none⟩ (.slice A5 nf c5)).setCell ⟨N+1,1,none⟩ (.slice A6 no c6)).setCell ⟨N+1,2,none⟩ (.slice A7 nh c7)).setCell ⟨N+1,3,none⟩ (.int .i64 s.quota)).setCell ⟨N+1,4,none⟩ (.int .i64 s.used)).setCell ⟨N+1,5,none⟩ (.int .i64 s.fin)).setCell ⟨N+1,6,none⟩ (.int .u64 (s.val:Int))).heap[b]? =wf.heap[b]? :=fun b hb=>hk b (by have:=hb.1;omega);exact⟨_,_,_,rfl,(slL frL).wide ((slL frL).keep hf0 hkk) hw,(slL obL).wide ((slL obL).keep hp0 hkk) hw,(slL hdL).wide ((slL hdL).keep hn0 hkk) hw,HI.out⟩
       · have hq:=HFR.out.choose_spec.choose_spec
         refine hq.1.keep (fun b hb=> ?_) fun b _=>rfl;have hb':b≠N+1:=by have:=hq.2 b (by omega);omega
         repeat(first|with_reducible exact rfl|(with_reducible refine(qBP _ _ _ _ ?_).trans ?_;exact hb'))
       · intro b hb
         have:=HFR.out.choose_spec.choose_spec.2 b hb;refine⟨by omega,?_⟩;simp[World.setCell]
         omega
       · have hb:=HB.out
         repeat(first|with_reducible exact hb|refine Below.setCell ?_ (by show N≤N+1;omega) _)
theorem qG3 (A:Option Addr) (n c:Nat) (xs:List Nat) (w:World) (hx:xs.length=n) (hb:Byt (·<w.heap.size) w A xs) (hn:n≤140737488355328):
 Calls Tryz.prog 198 #[.slice A n c] w fun e w'=>∃v,e= .returned v∧w'.ownsRow w.heap.size 5 1 v n (Bs xs)∧Below w.heap.size w w':=by
 refine qAh ?_;intro q23;have HX:=qBK hx;have HB:=qBK hb;clear hx hb;rcases A with _|a
 · have h0:n=0:=by
    rcases Nat.eq_zero_or_pos n with h|h
    · exact h
    · obtain⟨a,h,_⟩:=HB.out q9
      cases h
   subst h0;obtain rfl:xs=[]:=qBY HX.out
   go_enter Tryz.func198,Tryz.ntmps198
   go_wp2
   exact qw
 · go_enter Tryz.func198,Tryz.ntmps198
   go_wp2_with (at_builtin
                refine qBr _ rfl (.tmp 5) (.tmp 6) rfl w.heap.size (.slice (some ⟨w.heap.size,0,none⟩) 0 0) 0 [] rfl (qGh w) (some a) n c xs rfl HX.out (·<w.heap.size)
                 (HB.out.keep fun b hb=>qBX w _ b hb) (by omega) (by simp) ?_
                intro v1 w1 hown1 hg1 _)
   go_ret;refine⟨v1,rfl,by simpa using hown1,((qBO _ w).alloc (qBL _) _).grown hg1 (by simp) (fun k hk=> ?_)⟩;simp[Value.ownBlock] at hk
   omega
theorem qG1 (w:World):Calls Tryz.prog 198 #[.slice none 0 0] w fun e w'=>e= .returned (.slice none 0 0)∧w=w':=by
 refine qAh ?_;intro q23
 go_enter Tryz.func198,Tryz.ntmps198
 go_wp2
 go_ret;exact⟨rfl,rfl⟩
end Go.Proofs.YtgdbhanhmenmfaaGreat
