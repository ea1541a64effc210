/-
Mk Hcl Mt Hg Hc Hd He
-/
import Derived.Test.YtgdbhanhmenmfaaGreatQ01
import Derived.Test.YtgdbhanhmenmfaaGreatQ02
import Derived.Test.YtgdbhanhmenmfaaGreatQ03
import Derived.Deep.RegionHeld3
import Derived.Deep.DeepCutAuto
set_option linter.unusedSimpArgs false
set_option linter.unusedVariables false
set_option maxRecDepth 100000
set_option maxHeartbeats 4000000
namespace Go.Proofs.YtgdbhanhmenmfaaGreat
open Go.RowKit
variable {F:List Frm}{S T:Nat→Prop}{a b:World}{css:List (List Value)}{f:Frm}{fn:Int}{g gh gm go k:Nat}{l:List Nat}{m:Mod}{n:Nat}{pc:Int}{s:Stt}{st:List Nat}{tg:Nat→Nat}{v:Value}{w w':World}{ys:List Nat}
theorem qw {P:Prop} (h:P:=by
 go_ret;exact⟨_,rfl,World.ownsRow_nil _ _ _ _,qBO _ _⟩):P:=h
def Frm1 (P0 P1:Nat→Prop) (w:World) (cs:List Value) (f:Frm):Prop:=
 ∃v0 v1,cs=[.int .i64 f.fn,.int .i64 f.pc,v0,v1]∧I64 f.fn∧I64 f.pc∧(∀x∈f.locs,x<B64)∧(∀x∈f.stk,x<B64)∧Part P0 w 32 v0 (Ns f.locs)∧w.ownsRow 0 32 1 v1 f.stk.length (Ns f.stk)∧∀b,v1.ownBlock=some b→P1 b
theorem Frm1.keep {P0 P1 Q0 Q1:Nat→Prop} {cs:List Value} (h:Frm1 P0 P1 w cs f) (h0:∀b,P0 b→w'.heap[b]? =w.heap[b]?) (h1:∀b,P1 b→w'.heap[b]? =w.heap[b]?) (k0:∀b,P0 b→Q0 b) (k1:∀b,P1 b→Q1 b):Frm1 Q0 Q1 w' cs f:=by
 obtain⟨v0,v1,e,a1,a2,a3,a4,a5,a6,a7⟩:=h;exact⟨v0,v1,e,a1,a2,a3,a4,(a5.keep h0).wide fun b _ hb=>k0 b hb,qBs a6 fun b hb=>h1 b (a7 b hb),fun b hb=>k1 b (a7 b hb)⟩
theorem Frm1.len {P0 P1:Nat→Prop} {cs:List Value} (h:Frm1 P0 P1 w cs f):cs.length=4:=by
 obtain⟨v0,v1,rfl,-⟩:=h
 rfl
def Fr (tg:Nat→Nat) (w:World) (v:Value) (css:List (List Value)) (F:List Frm):Prop:=
 css.length=F.length∧w.ownsRow 0 80 4 v F.length css.flatten∧(∀b,v.ownBlock=some b→tg b=5)∧
  ∀(j:Nat) (f:Frm) (cs:List Value),F[j]? =some f→css[j]? =some cs→Frm1 (fun b=>tg b=2*j+6) (fun b=>tg b=2*j+7) w cs f
theorem Fr.keep {tg':Nat→Nat} (h:Fr tg w v css F) (hk:∀b,5≤tg b→w'.heap[b]? =w.heap[b]?) (ht:∀b,5≤tg b→tg' b=tg b):Fr tg' w' v css F:=
 ⟨h.1,qBs h.2.1 fun b e=>hk b (by have:=h.2.2.1 b e;omega),fun b e=>by have:=h.2.2.1 b e;rw[ht b (by omega)];exact this,fun j f cs h1 h2=>(h.2.2.2 j f cs h1 h2).keep (fun b hb=>hk b (by omega)) (fun b hb=>hk b (by omega)) (fun b hb=>by rw[ht b (by omega)];exact hb) fun b hb=>by rw[ht b (by omega)];exact hb⟩
theorem Fr.len4 (h:Fr tg w v css F):∀cs∈css,cs.length=4:=fun cs hcs=>by
 obtain⟨j,hj⟩:=qBk.1 hcs;have hjl:j<F.length:=by rw[←h.1];exact(qBM.1 hj).1
 exact(h.2.2.2 j _ cs (List.getElem?_eq_getElem hjl) hj).len
theorem Fr.upd {tg':Nat→Nat} (h:Fr tg w v css F) {j:Nat} {f':Frm} {cs':List Value} (hown:w'.ownsRow 0 80 4 v F.length (css.set j cs').flatten)
 (hf:Frm1 (fun b=>tg' b=2*j+6) (fun b=>tg' b=2*j+7) w' cs' f') (ht:∀b,tg b≠0→tg' b=tg b) (hk:∀b,5<tg b→tg b≠2*j+6→tg b≠2*j+7→w'.heap[b]? =w.heap[b]?):Fr tg' w' v (css.set j cs') (F.set j f'):=by
 refine⟨by simp[h.1],by rw[List.length_set];exact hown,fun b e=>by have:=h.2.2.1 b e;rw[ht b (by omega)];exact this,fun i x ds e1 e2=> ?_⟩;rw[List.getElem?_set] at e1 e2
 by_cases e:j=i
 · subst e
   rw[if_pos rfl] at e1 e2;split at e1
   · split at e2
     · injection e1 with e1
       injection e2 with e2;subst e1 e2;exact hf
     · cases e2
   · cases e1
 · rw[if_neg e] at e1 e2
   exact(h.2.2.2 i x ds e1 e2).keep (fun b hb=>hk b (by omega) (by omega) (by omega)) (fun b hb=>hk b (by omega) (by omega) (by omega)) (fun b hb=>by rw[ht b (by omega)];exact hb) fun b hb=>by rw[ht b (by omega)];exact hb
def Own (S:Nat→Prop) (w w':World) (b:Nat):Prop:=S b∨(w.heap.size≤b∧b<w'.heap.size)
structure Mi (tg:Nat→Nat) (p0 p1 p2 p3 p4:Value) (css:List (List Value)) (S:Nat→Prop) (m:Mod) (gm go gh:Nat) (v:Value) (w:World) (s:Stt):Prop where
 own:∀b,tg b≠0→S b∧b<w.heap.size
 blk:Blk w gm 91 #[.pointer (some ⟨go,0,none⟩),.pointer (some ⟨gh,0,none⟩),.int .i64 s.quota,.int .i64 s.fin,.int .u64 (s.val:Int),p0,p1,p2,p3,p4,v]
 tgm:tg gm=1
 md:modL.R (fun b=>tg b=4) w [p0,p1,p2,p3,p4] m
 hp:IsHp (fun b=>tg b=2) w go s.hp s.quota s.used
 tb:IsTb (fun b=>tg b=3) w gh s.hn
 fr:Fr tg w v css s.fr
 ok:I64 s.quota∧I64 s.fin∧s.val<B64
structure Pr where
 p0:Value
 p1:Value
 p2:Value
 p3:Value
 p4:Value
def Mc (S:Nat→Prop) (m:Mod) (gm go gh:Nat) (P:Pr) (v:Value) (w:World) (s:Stt):Prop:=∃tg css,Mi tg P.p0 P.p1 P.p2 P.p3 P.p4 css S m gm go gh v w s
theorem Mc.keep {P:Pr} (h:Mc S m gm go gh P v w s) (hs:w.heap.size≤w'.heap.size) (hk:∀b,S b→b<w.heap.size→w'.heap[b]? =w.heap[b]?) (hT:∀b,S b→b<w.heap.size→T b):Mc T m gm go gh P v w' s:=by
 obtain⟨tg,css,q⟩:=h;have hk':∀b,tg b≠0→w'.heap[b]? =w.heap[b]? :=fun b hb=>hk b (q.own b hb).1 (q.own b hb).2;exact⟨tg,css,fun b hb=>⟨hT b (q.own b hb).1 (q.own b hb).2,qBN (q.own b hb).2 hs⟩,(hk' gm qr).trans q.blk,q.tgm,modL.keep q.md fun b hb=>hk' b (by omega),q.hp.keep (fun b _ hb=>hk' b (by omega)) fun b hb=>(q.own b (by omega)).2,
  q.tb.keep fun b _ hb=>hk' b (by omega),q.fr.keep (fun b hb=>hk' b (by omega)) fun b _=>rfl,q.ok⟩
theorem Mc.below {P:Pr} (h:Mc S m gm go gh P v w s) (hb:Below w.heap.size w w'):Mc S m gm go gh P v w' s:=h.keep hb.size (fun b _ h2=>hb.block b h2) fun b h1 _=>h1
theorem Mc.wide {P:Pr} (h:Mc S m gm go gh P v w s) (hT:∀b,b<w.heap.size→S b→T b):Mc T m gm go gh P v w s:=h.keep (qBL _) (fun b _ _=>rfl) fun b h1 h2=>hT b h2 h1
theorem qM8 (ho:∀b,tg b≠0→S b∧b<w.heap.size) (hs:w.heap.size≤w'.heap.size) (k:Nat):
 ∃tg':Nat→Nat,(∀b,tg b≠0→tg' b=tg b)∧(∀b,w.heap.size≤b→b<w'.heap.size→tg' b=k)∧∀b,tg' b≠0→Own S w w' b∧b<w'.heap.size:=by
 refine⟨fun b=>if w.heap.size≤b then (if b<w'.heap.size then k else 0) else tg b,fun b hb=>if_neg (by have:=(ho b hb).2;omega),fun b h1 h2=>by show(if _ then _ else _)=_;rw[if_pos h1,if_pos h2],fun b hb=> ?_⟩;have hb:(if w.heap.size≤b then (if b<w'.heap.size then k else 0) else tg b)≠0:=hb;split at hb
 · split at hb
   · exact⟨.inr ⟨by assumption,by assumption⟩,by assumption⟩
   · exact absurd rfl hb
 · have:=ho b hb
   exact⟨.inl this.1,by omega⟩
theorem qKe (h:Trn S a b) (hT:∀i,i<a.heap.size→S i→T i):Trn T a b:=⟨h.os,h.tape,h.output,h.size,fun i hi hn=>h.block i hi fun q=>hn (hT i hi q)⟩
theorem Mc.heap {P:Pr} (h:Mc S m gm go gh P v w s):
 ∃S2:Nat→Prop,IsHp S2 w go s.hp s.quota s.used∧(∀b,S2 b→S b∧b<w.heap.size)∧
  ∀(w':World) (O:List Ob) (u:Int),IsHp (fun b=>S2 b∨(w.heap.size≤b∧b<w'.heap.size)) w' go O s.quota u→Trn S2 w w'→Mc (Own S w w') m gm go gh P v w' {s with hp:=O,used:=u}∧Trn S w w':=by
 obtain⟨tg,css,q⟩:=h;refine⟨fun b=>tg b=2,q.hp,fun b hb=>q.own b (by omega),fun w' O u h1 h2=>⟨?_,qKe h2 fun i _ hi=>(q.own i (by omega)).1⟩⟩;obtain⟨tg',t1,t2,t3⟩:=qM8 q.own h2.size 2;have hk:∀b,tg b≠0→tg b≠2→w'.heap[b]? =w.heap[b]? :=fun b h1 h3=>h2.block b (q.own b h1).2 h3;refine⟨tg',css,t3,(hk gm qr qr).trans q.blk,by rw[t1 gm qr];exact q.tgm,modL.wide (modL.keep q.md fun b hb=>hk b (by omega) (by omega)) fun b hb=>by rw[t1 b (by omega)];exact hb,h1.wide fun b hb=> ?_,
  (q.tb.keep fun b _ hb=>hk b (by omega) (by omega)).wide fun b _ hb=>by rw[t1 b (by omega)];exact hb,q.fr.keep (fun b hb=>hk b (by omega) (by omega)) fun b hb=>t1 b (by omega),q.ok⟩
 rcases hb with hb|hb
 · rw[t1 b (by omega)];exact hb
 · exact t2 b hb.1 hb.2
theorem Mc.table {P:Pr} (h:Mc S m gm go gh P v w s):
 ∃S2:Nat→Prop,IsTb S2 w gh s.hn∧(∀b,S2 b→S b∧b<w.heap.size)∧
  ∀(w':World) (H:List Hnd),IsTb (fun b=>S2 b∨(w.heap.size≤b∧b<w'.heap.size)) w' gh H→Trn S2 w w'→Mc (Own S w w') m gm go gh P v w' {s with hn:=H}∧Trn S w w':=by
 obtain⟨tg,css,q⟩:=h;refine⟨fun b=>tg b=3,q.tb,fun b hb=>q.own b (by omega),fun w' O h1 h2=>⟨?_,qKe h2 fun i _ hi=>(q.own i (by omega)).1⟩⟩;obtain⟨tg',t1,t2,t3⟩:=qM8 q.own h2.size 3;have hk:∀b,tg b≠0→tg b≠3→w'.heap[b]? =w.heap[b]? :=fun b h1 h3=>h2.block b (q.own b h1).2 h3;refine⟨tg',css,t3,(hk gm qr qr).trans q.blk,by rw[t1 gm qr];exact q.tgm,modL.wide (modL.keep q.md fun b hb=>hk b (by omega) (by omega)) fun b hb=>by rw[t1 b (by omega)];exact hb,
  (q.hp.keep (fun b _ hb=>hk b (by omega) (by omega)) fun b hb=>(q.own b (by omega)).2).wide fun b hb=>by rw[t1 b (by omega)];exact hb,h1.wide fun b _ hb=> ?_,q.fr.keep (fun b hb=>hk b (by omega) (by omega)) fun b hb=>t1 b (by omega),q.ok⟩
 rcases hb with hb|hb
 · rw[t1 b (by omega)];exact hb
 · exact t2 b hb.1 hb.2
theorem qMu {α:Type} {l:List α} {j:Nat} {x:α} (h:l[j]? =some x):l.set j x=l:=by
 obtain⟨h1,h2⟩:=qBM.1 h;rw[←h2];exact List.set_getElem_self h1
theorem qMt {α:Type} (F:List α) (f f':α):(F++[f]).set F.length f'=F++[f']:=by simp
theorem qC6 {base ty:Nat} {xs:List Value} (h:w.ownsRow base ty k v n xs):∃A c,v= .slice A n c∧n≤c∧c≤maxLen:=by
 rcases h.2 with⟨rfl,rfl⟩|⟨g,cap,cur,rfl,-,-,h1,h2,-⟩
 · exact⟨_,_,rfl,qBL _,qBU _⟩
 · exact⟨_,_,rfl,h1,h2⟩
theorem Mc.top {P:Pr} (h:Mc S m gm go gh P v w s) (hF:s.fr=F++[f]):
 ∃gF c A cl v1,v= .slice (some ⟨gF,0,none⟩) (F.length+1) c∧F.length+1≤c∧c≤maxLen∧gF≠gm∧gF<w.heap.size∧S gF∧(∀i,w.frozen? ⟨gF,i,none⟩=false)∧
  w.cell? ⟨gF,F.length*4,none⟩=some (.int .i64 f.fn)∧w.cell? ⟨gF,F.length*4+1,none⟩=some (.int .i64 f.pc)∧w.cell? ⟨gF,F.length*4+2,none⟩=some (.slice A f.locs.length cl)∧w.cell? ⟨gF,F.length*4+3,none⟩=some v1∧
  f.locs.length≤cl∧cl≤maxLen∧I64 f.fn∧I64 f.pc∧(∀x∈f.locs,x<B64)∧(∀x∈f.stk,x<B64)∧
  (∀(k x:Nat),f.locs[k]? =some x→∃gl,A=some ⟨gl,0,none⟩∧S gl∧gl<w.heap.size∧gl≠gF∧w.cell? ⟨gl,k,none⟩=some (.int .u64 (x:Int))∧w.frozen? ⟨gl,k,none⟩=false∧∀y:Nat,y<B64→Mc S m gm go gh P v (w.setCell ⟨gl,k,none⟩ (.int .u64 (y:Int))) {s with fr:=F++[{f with locs:=f.locs.set k y}]})∧
  w.ownsRow 0 32 1 v1 f.stk.length (Ns f.stk)∧(∀b,v1.ownBlock=some b→S b∧b≠gF∧b≠gm)∧
  (∀pc:Int,I64 pc→Mc S m gm go gh P v (w.setCell ⟨gF,F.length*4+1,none⟩ (.int .i64 pc)) {s with fr:=F++[{f with pc:=pc}]})∧
  ∀(w1:World) (v1':Value) (l:List Nat),w1.ownsRow 0 32 1 v1' l.length (Ns l)→w.grownBy w1 v1.ownBlock→(∀b,v1'.ownBlock=some b→v1.ownBlock=some b∨w.heap.size≤b)→(∀x∈l,x<B64)→
   Mc (Own S w w1) m gm go gh P v (w1.setCell ⟨gF,F.length*4+3,none⟩ v1') {s with fr:=F++[{f with stk:=l}]}∧Trn S w (w1.setCell ⟨gF,F.length*4+3,none⟩ v1'):=by
 obtain⟨tg,css,q⟩:=h;have qf:=q.fr;rw[hF] at qf;have hk4:=qf.len4;have hcl:css.length=F.length+1:=by rw[qf.1];simp
 have hcs:css[F.length]? =some (css[F.length]'(by omega)):=List.getElem?_eq_getElem _;generalize css[F.length]'(by omega)=cs at hcs;obtain⟨v0,v1,rfl,a1,a2,a3,a4,a5,a6,a7⟩:=qf.2.2.2 F.length f cs (by simp) hcs;have ho:=qf.2.1;have hfl:(F++[f]).length=F.length+1:=by simp
 rw[hfl] at ho;obtain⟨gF,c,rfl,-,hgF⟩:=qCQ ho (by omega);obtain⟨A,cl,rfl,b1,b2⟩:=a5.shape;rw[qBz] at b1;have ht5:tg gF=5:=qf.2.2.1 gF rfl;have hcell:∀i u,i<4→[Value.int .i64 f.fn,.int .i64 f.pc,.slice A (Ns f.locs).length cl,v1][i]? =some u→w.cell? ⟨gF,F.length*4+i,none⟩=some u:=fun i u hi hu=>by
  have:=ho.cells rfl (F.length*4+i) u (by rw[qCf hk4 hcs i hi];exact hu)
  rwa [add_zero] at this
 have hcb:F.length+1≤c∧c≤maxLen:=by
  obtain⟨A',c',e,h1,h2⟩:=qC6 ho;simp only[Value.slice.injEq] at e;obtain⟨-,-,rfl⟩:=e;exact⟨h1,h2⟩
 have hgm:gF≠gm:=fun e=>by rw[e,q.tgm] at ht5;cases ht5
 have mk:∀(tg':Nat→Nat) (T:Nat→Prop) (w':World) (f':Frm) (cs':List Value),(∀b,tg b≠0→tg' b=tg b)→(∀b,tg' b≠0→T b∧b<w'.heap.size)→(∀b,tg b≠0→tg b≠5→tg b≠2*F.length+6→tg b≠2*F.length+7→w'.heap[b]? =w.heap[b]?)→
  w'.ownsRow 0 80 4 (.slice (some ⟨gF,0,none⟩) (F.length+1) c) (F.length+1) (css.set F.length cs').flatten→Frm1 (fun b=>tg' b=2*F.length+6) (fun b=>tg' b=2*F.length+7) w' cs' f'→
  Mc T m gm go gh P (.slice (some ⟨gF,0,none⟩) (F.length+1) c) w' {s with fr:=F++[f']}:=by
  intro tg' T w' f' cs' t1 t3 hk hown hf;refine⟨tg',css.set F.length cs',t3,(hk gm qr qr (by rw[q.tgm];omega) (by rw[q.tgm];omega)).trans q.blk,by rw[t1 gm qr];exact q.tgm,modL.wide (modL.keep q.md fun b hb=>hk b (by omega) (by omega) (by omega) (by omega)) fun b hb=>by rw[t1 b (by omega)];exact hb,
   (q.hp.keep (fun b _ hb=>hk b (by omega) (by omega) (by omega) (by omega)) fun b hb=>(q.own b (by omega)).2).wide fun b hb=>by rw[t1 b (by omega)];exact hb,(q.tb.keep fun b _ hb=>hk b (by omega) (by omega) (by omega) (by omega)).wide fun b _ hb=>by rw[t1 b (by omega)];exact hb,?_,q.ok⟩
  have:=qf.upd (tg':=tg') (w':=w') (j:=F.length) (f':=f') (cs':=cs') (by rw[hfl];exact hown) hf t1 fun b h1 h2 h3=>hk b (by omega) (by omega) h2 h3
  rwa [qMt] at this
 have hss:∀(w':World) (u:Value) (i:Nat),i<4→w'.ownsRow 0 80 4 (.slice (some ⟨gF,0,none⟩) (F.length+1) c) (F.length+1) css.flatten→(w'.setCell ⟨gF,F.length*4+i,none⟩ u).ownsRow 0 80 4 (.slice (some ⟨gF,0,none⟩) (F.length+1) c) (F.length+1) (css.set F.length ([Value.int .i64 f.fn,.int .i64 f.pc,.slice A (Ns f.locs).length cl,v1].set i u)).flatten:=fun w' u i hi h=>by
  have:=(h.stored (F.length*4+i) u).1
  rwa [qCe hk4 hcs hi u] at this
 refine⟨gF,c,A,cl,v1,rfl,hcb.1,hcb.2,hgm,hgF,(q.own gF (by omega)).1,fun i=>ho.frozenAt i,hcell 0 _ (by omega) rfl,hcell 1 _ (by omega) rfl,by rw[hcell 2 _ (by omega) rfl,qBz],hcell 3 _ (by omega) rfl,b1,b2,a1,a2,a3,a4,fun k x hx=> ?_,a6,fun b hb=>⟨(q.own b (by have:=a7 b hb;omega)).1,fun e=>by have:=a7 b hb;rw[e] at this;omega,fun e=>by have:=a7 b hb;rw[e,q.tgm] at this;omega⟩,fun pc hpc=> ?_,fun w1 v1' l h1 h2 h3 h4=>⟨?_,?_⟩⟩
 · have hkl:=(qBM.1 hx).1
   obtain⟨gl,cur,rfl,hP,hb,hc⟩:=a5.head (by rw[qBz];omega);refine⟨gl,rfl,(q.own gl (by omega)).1,hb.lt,fun e=>by rw[e,ht5] at hP;omega,by rw[hb.cell];exact hc k _ (qHB hx),hb.frozen k,fun y hy=> ?_⟩;have hk:∀b,b≠gl→(w.setCell ⟨gl,k,none⟩ (.int .u64 (y:Int))).heap[b]? =w.heap[b]? :=fun b hb=>qBP _ _ _ _ hb;refine mk tg S _ {f with locs:=f.locs.set k y} [.int .i64 f.fn,.int .i64 f.pc,.slice (some ⟨gl,0,none⟩) (Ns f.locs).length cl,v1] (fun b _=>rfl) (fun b hb=>⟨(q.own b hb).1,by simpa[World.setCell] using(q.own b hb).2⟩) (fun b _ _ h1 _=>hk b fun e=>h1 (by rw[e];exact hP)) ?_ ⟨_,_,rfl,a1,a2,fun z hz=> ?_,a4,?_,qBs a6 fun b hb=>hk b fun e=>by have:=a7 b hb;rw[e,hP] at this;omega,a7⟩
   · rw[qMu hcs]
     exact qBs ho fun b hb=>hk b fun e=>by have h5:=qf.2.2.1 b hb;rw[e,hP] at h5;omega
   · rcases List.mem_or_eq_of_mem_set hz with h|h
     · exact a3 z h
     · rw[h];exact hy
   · have:=a5.set (i:=k) (by rw[qBz];omega) (.int .u64 (y:Int))
     rw[Ns_set] at this;exact this
 · have hk:∀b,b≠gF→(w.setCell ⟨gF,F.length*4+1,none⟩ (.int .i64 pc)).heap[b]? =w.heap[b]? :=fun b hb=>qBP _ _ _ _ hb
   refine mk tg S _ {f with pc:=pc} _ (fun b _=>rfl) (fun b hb=>⟨(q.own b hb).1,by simpa[World.setCell] using(q.own b hb).2⟩) (fun b _ h1 _ _=>hk b fun e=>h1 (by rw[e];exact ht5)) (hss w (.int .i64 pc) 1 (by omega) ho) ⟨_,_,rfl,a1,hpc,a3,a4,a5.keep fun b hb=>hk b fun e=>by rw[e,ht5] at hb;omega,qBs a6 fun b hb=>hk b fun e=>by have:=a7 b hb;rw[e,ht5] at this;omega,a7⟩
 · obtain⟨tg',t1,t2,t3⟩:=qM8 q.own h2.size (2*F.length+7)
   have hv1:∀b,v1.ownBlock=some b→tg b=2*F.length+7:=a7;have hk1:∀b,tg b≠0→tg b≠2*F.length+7→w1.heap[b]? =w.heap[b]? :=fun b h5 h6=>h2.block b (q.own b h5).2 fun e=>h6 (hv1 b e.symm);have hk:∀b,b≠gF→(w1.setCell ⟨gF,F.length*4+3,none⟩ v1').heap[b]? =w1.heap[b]? :=fun b hb=>qBP _ _ _ _ hb;have ho1:=qBs (w':=w1) ho fun b hb=>hk1 b (by injection hb with hb;rw[←hb];show tg gF≠0;omega) (by injection hb with hb;rw[←hb];show tg gF≠_;omega);refine mk tg' (Own S w w1) _ {f with stk:=l} _ t1 (fun b hb=>⟨(t3 b hb).1,by simpa[World.setCell] using(t3 b hb).2⟩) (fun b h5 h6 _ h7=>(hk b fun e=>h6 (by rw[e];exact ht5)).trans (hk1 b h5 h7)) (hss w1 v1' 3 (by omega) ho1) ⟨_,_,rfl,a1,a2,a3,h4,(a5.keep fun b hb=>(hk b fun e=>by rw[e,ht5] at hb;omega).trans (hk1 b (by omega) (by omega))).wide fun b _ hb=>by rw[t1 b (by omega)];exact hb,qBs h1 fun b hb=>hk b fun e=> ?_,fun b hb=> ?_⟩
   · rcases h3 b hb with h|h
     · have:=hv1 b h;rw[e,ht5] at this;omega
     · omega
   · rcases h3 b hb with h|h
     · have:=hv1 b h;rw[t1 b (by omega)];exact this
     · exact t2 b h (h1.lt b hb).2
 · refine⟨h2.os,h2.tape,h2.output,by simpa[World.setCell] using h2.size,fun b hb hn=> ?_⟩
   rw[qBP _ _ _ _ fun(e:b=gF)=>hn (by rw[e];exact(q.own gF (by omega)).1)];exact h2.block b hb fun e=>hn (q.own b (by have:=a7 b e.symm;omega)).1
theorem qEX:(Tryz.prog.info? 32).map (fun i=>(i.zero,i.size,i.bytes))=some (some (.int .u64 0),1,8):=by kernel_rfl
theorem qGi {S:Nat→Prop} {w:World}:∀{css:List (List Value)} {xs:List Nat},css.length=xs.length→(∀(j:Nat) (x:Nat) (cs:List Value),xs[j]? =some x→css[j]? =some cs→numL.R S w cs x)→css.flatten=Ns xs
 |[],[],_,_=>rfl
 |[],_::_,h,_=>by simp at h
 |_::_,[],h,_=>by simp at h
 |c::css,x::xs,h,hR=>by
  have h0:=hR 0 x c rfl rfl;have ih:=qGi (css:=css) (xs:=xs) qy fun j y cs h1 h2=>hR (j+1) y cs (by simpa using h1) (by simpa using h2);rw[List.flatten_cons,ih,h0.1]
  rfl
theorem qDd (A:Option Addr) (n c:Nat) (xs:List Nat) (w:World) (hl:xs.length=n) (hR:Sq numL (·<w.heap.size) w A xs) (hn:n≤1000000):
 Calls Tryz.prog 67 #[.slice A n c] w fun e w'=>∃v,e= .returned v∧w'.ownsRow w.heap.size 32 1 v n (Ns xs)∧Below w.heap.size w w':=by
 have qq:∀(w:World) (a:Option Addr) (n c n' c':Nat),(binOp .eql 25 (.slice a n c) (.slice none n' c')).run Tryz.prog w= .ok (.bool a.isNone) w:=fun w a n c n' c'=>Lib.run_eql_slice_nil w _ _ a n c n' c' Tryz.underlying25;refine qBB ?_;intro HL HR;rcases A with _|a
 · refine qAB ?_;intro h0
   subst h0;obtain rfl:n=0:=by simpa using hl.symm
   clear hl hR
   go_enter Tryz.func67,Tryz.ntmps67
   go_wp2_with fail
   exact qw
 · clear hl hR
   go_enter Tryz.func67,Tryz.ntmps67
   go_wp2_with (at_builtin
                refine qCH numL _ rfl (.tmp 5) (.tmp 6) 25 32 rfl (.int .u64 0) 8 Tryz.underlying25 qEX rfl qp (by omega) w.heap.size (.slice (some ⟨w.heap.size,0,none⟩) 0 0) rfl (qC4 w _ _) a n c xs rfl HL.out (·<w.heap.size) (HR.out.keep fun b hb=>qBX w _ b hb) (by omega) (by simp) ?_;intro v2 w2 css hcl hown2 hRR hg2;rw[qGi (hcl.trans HL.out.symm) hRR] at hown2;have HO2:=qBK hown2;have HB2:=qBK (((qBO w.heap.size w).alloc (qBL _) (.cells #[] 32)).grown hg2 (by simp) (fun i hi=>by simp[Value.ownBlock] at hi;omega));clear hown2 hRR hg2 hcl)
   go_ret;exact⟨_,rfl,HO2.out,HB2.out⟩
theorem qF9 (A:Option Addr) (n c:Nat) (xs:List Nat) (w:World) (hl:xs.length=n) (hR:Byt (·<w.heap.size) w A xs) (hn:n≤1000000):
 Calls Tryz.prog 68 #[.slice A n c] w fun e w'=>∃v,e= .returned v∧w'.ownsRow w.heap.size 5 1 v n (Bs xs)∧Below w.heap.size w w':=by
 have qq:∀(w:World) (a:Option Addr) (n c n' c':Nat),(binOp .eql 76 (.slice a n c) (.slice none n' c')).run Tryz.prog w= .ok (.bool a.isNone) w:=fun w a n c n' c'=>Lib.run_eql_slice_nil w _ _ a n c n' c' Tryz.underlying76;refine qBB ?_;intro HL HR;rcases A with _|a
 · refine qAB ?_;intro h0
   subst h0;obtain rfl:n=0:=by simpa using hl.symm
   clear hl hR
   go_enter Tryz.func68,Tryz.ntmps68
   go_wp2_with fail
   exact qw
 · clear hl hR
   go_enter Tryz.func68,Tryz.ntmps68
   go_wp2_with (at_builtin
                refine qBr _ rfl (.tmp 5) (.tmp 6) rfl w.heap.size (.slice (some ⟨w.heap.size,0,none⟩) 0 0) 0 [] rfl (qGh w) (some a) n c xs rfl HL.out (·<w.heap.size)
                 (HR.out.keep fun b hb=>qBX w _ b hb) (by omega) (by simp) ?_
                intro v1 w1 hown1 hg1 _;have HO2:=qBK (show w1.ownsRow w.heap.size 5 1 v1 n (Bs xs) from by simpa using hown1);have HB2:=qBK (((qBO w.heap.size w).alloc (qBL _) (.cells #[] 5)).grown hg1 (by simp) (fun i hi=>by simp[Value.ownBlock] at hi;omega));clear hown1 hg1)
   go_ret;exact⟨_,rfl,HO2.out,HB2.out⟩
structure Mch where
 m:Mod
 gm:Nat
 go:Nat
 gh:Nat
 gF:Nat
 c:Nat
 P:Pr
 F:List Frm
def Mf (K:Mch) (S:Nat→Prop) (w:World) (s:Stt) (f:Frm):Prop:=Mc S K.m K.gm K.go K.gh K.P (.slice (some ⟨K.gF,0,none⟩) (K.F.length+1) K.c) w {s with fr:=K.F++[f]}
theorem qKx {base ty m:Nat} {A:Option Addr} {c:Nat} {xs:List Value} (h:w.ownsRow base ty k (.slice A n c) n xs) (hm:m≤n):w.ownsRow base ty k (.slice A m c) m (xs.take (m*k)):=by
 have hl:=h.1;have hk:=Nat.mul_le_mul_right k hm;rcases h.2 with⟨e,h0⟩|⟨g,cap,cur,e,h1,h2,h3,h4,h5,h6⟩
 · injection e with e1 e2 e3
   subst e1 e3;obtain rfl:m=0:=by omega
   exact⟨by simp,.inl ⟨rfl,rfl⟩⟩
 · injection e with e1 e2 e3
   subst e1 e3;refine⟨by rw[List.length_take];omega,.inr ⟨g,c,cur,rfl,h1,h2,by omega,h4,h5,?_⟩⟩;rw[←h6,List.take_take,Nat.min_eq_left hk]
theorem sq_cut {A:Option Addr} {c:Nat} {xs:List Nat} (h:w.ownsRow 0 32 1 (.slice A n c) n (Ns xs)) (hb:∀x∈xs,x<B64) (hk:k≤n):
 Sq numL (fun b=>(Value.slice A n c).ownBlock=some b) w (if c=k then A else A.map (·.add (k*1))) (xs.drop k):=by
 intro hp;have hl:xs.length=n:=by have:=h.1;rw[qBz] at this;omega
 rw[List.length_drop] at hp;obtain⟨g,c',e,-,-⟩:=qCQ h (by omega);obtain⟨_,_,e',hc,-⟩:=qC6 h;injection e with e1 e2 e3;injection e' with e4 e5 e6;subst e1;rw[if_neg (by omega)];refine⟨_,rfl,by rw[qBn];rfl,fun j x hx=>⟨[.int .u64 (x:Int)],fun i u hu=> ?_,rfl,hb x (List.mem_of_mem_drop (qBQ hx))⟩⟩
 match i,hu with
 |0,hu=>
  simp at hu;subst hu;rw[qET,add_zero];rw[List.getElem?_drop] at hx;have hj:=(qBM.1 hx).1;have:=h.cellAt (k+j) (by omega);rw[qHB hx] at this;rw[show k*1+(j*numL.k+0)=k+j by show k*1+(j*1+0)=k+j;omega];exact this
 |i+1,hu=>simp at hu
theorem Own.self (h:w'.heap.size=w.heap.size):∀b,Own S w w' b→S b:=fun b hb=>hb.elim id fun q=>by omega
theorem Mf.stk {K:Mch} (h:Mf K S w s f):
 ∃v1,w.cell? ⟨K.gF,K.F.length*4+3,none⟩=some v1∧w.frozen? ⟨K.gF,K.F.length*4+3,none⟩=false∧K.gF<w.heap.size∧w.ownsRow 0 32 1 v1 f.stk.length (Ns f.stk)∧(∀b,v1.ownBlock=some b→S b∧b≠K.gF)∧(∀x∈f.stk,x<B64)∧
  ∀(w1:World) (v1':Value) (l:List Nat),w1.ownsRow 0 32 1 v1' l.length (Ns l)→w.grownBy w1 v1.ownBlock→(∀b,v1'.ownBlock=some b→v1.ownBlock=some b∨w.heap.size≤b)→(∀x∈l,x<B64)→
   Mf K (Own S w w1) (w1.setCell ⟨K.gF,K.F.length*4+3,none⟩ v1') s {f with stk:=l}∧Trn S w (w1.setCell ⟨K.gF,K.F.length*4+3,none⟩ v1'):=by
 obtain⟨gF,c,A,cl,v1,ev,hc1,hc2,hne,hlt,hS,hfz,e0,e1,e2,e3,b1,b2,i1,i2,x1,x2,-,ho,hob,-,hstk⟩:=h.top rfl;injection ev with e4 e5 e6;injection e4 with e4;injection e4 with e4;subst e4;exact⟨v1,e3,hfz _,hlt,ho,fun b hb=>⟨(hob b hb).1,(hob b hb).2.1⟩,x2,hstk⟩
theorem qE1 (K:Mch) (n:Nat) (w:World) (h:Mf K S w s ⟨fn,pc,l,st++ys⟩) (hn:ys.length=n) (hl:st.length+n≤100000):
 Calls Tryz.prog 136 #[.pointer (some ⟨K.gF,K.F.length*4,none⟩),.int .i64 (n:Int)] w fun e w'=>∃A c,e= .returned (.slice A n c)∧n≤c∧c≤maxLen∧Sq numL (·<w.heap.size) w' A ys∧Mf K S w' s ⟨fn,pc,l,st⟩∧Trn S w w'∧w'.heap.size=w.heap.size∧∃u,w'=w.setCell ⟨K.gF,K.F.length*4+3,none⟩ u:=by
 obtain⟨v1,c3,f3,hlt,ho,hob,hx,hcl⟩:=h.stk;obtain⟨A,c,rfl,hc1,hc2⟩:=qC6 ho;obtain⟨k,hk⟩:∃k,st.length=k:=⟨_,rfl⟩;have hp:(st++ys).length=k+n:=by rw[List.length_append,hn,hk]
 have HE:Hid (Sq numL (·<w.heap.size) (w.setCell ⟨K.gF,K.F.length*4+3,none⟩ (.slice A k c)) (if c=k then A else A.map (·.add (k*1))) ys∧Mf K S (w.setCell ⟨K.gF,K.F.length*4+3,none⟩ (.slice A k c)) s ⟨fn,pc,l,st⟩∧Trn S w (w.setCell ⟨K.gF,K.F.length*4+3,none⟩ (.slice A k c))∧(w.setCell ⟨K.gF,K.F.length*4+3,none⟩ (.slice A k c)).heap.size=w.heap.size∧∃u,w.setCell ⟨K.gF,K.F.length*4+3,none⟩ (.slice A k c)=w.setCell ⟨K.gF,K.F.length*4+3,none⟩ u):=by
  have ht:(Ns (st++ys)).take (k*1)=Ns st:=by rw[qOt,List.take_left' (by rw[qBz,hk];omega)]
  have hct:=qKx ho (m:=k) (by show k≤(st++ys).length;omega);change World.ownsRow w 0 _ 1 _ k ((Ns (st++ys)).take (k*1)) at hct;rw[ht] at hct;obtain⟨q1,q2⟩:=hcl w (.slice A k c) st (by rw[hk];exact hct) ⟨rfl,rfl,rfl,qBL _,fun _ _ _=>rfl⟩ (fun b hb=> .inl (by cases A<;>exact hb)) fun x hx'=>hx x (List.mem_append_left _ hx');have hs:=sq_cut ho hx (k:=k) (by show k≤(st++ys).length;omega);change Sq numL _ w _ ((st++ys).drop k) at hs;rw[List.drop_left' hk] at hs;exact⟨(hs.keep fun b hb=>qBP w ⟨K.gF,_,none⟩ (.slice A k c) b (hob b hb).2).wide fun b hb=>(ho.lt b hb).2,q1.wide fun b _=>Own.self rfl b,q2,by simp[World.setCell],_,rfl⟩
 clear h hcl ho hx hob;change (st++ys).length≤c at hc1;change w.cell? _=some (.slice A (st++ys).length c) at c3;rw[hp] at c3 hc1;obtain⟨p,hpp⟩:∃p,k+n=p:=⟨_,rfl⟩;rw[hpp] at c3 hc1;have e1:(p:Int)-(n:Int)=(k:Int):=by omega
 have e2:IntKind.i64.wrap (k:Int)=(k:Int):=by rw[qBi];omega
 have e3:p-k=n:=by omega
 have hkp:k≤p:=by omega
 have hkc:k≤c:=by omega
 have hcn:n+k≤c:=by omega
 clear hpp hp hk hn hl;generalize K.F.length*4=o at*
 by_cases hck:c=k
 · subst hck
   go_enter Tryz.func136,Tryz.ntmps136
   go_wp2
   go_ret;obtain⟨a1,a2⟩:=HE.out;rw[if_pos trivial] at a1;exact⟨A,0,rfl,by omega,by simp[maxLen],a1,a2⟩
 · go_enter Tryz.func136,Tryz.ntmps136
   go_wp2
   go_ret;obtain⟨a1,a2⟩:=HE.out;rw[if_neg hck,Nat.mul_one] at a1;exact⟨_,c-k,rfl,by omega,by omega,a1,a2⟩
theorem qKd (a:Addr):a.add 0=a:=by simp[Addr.add]
theorem qH4 (K:Mch) {x:Nat} (w:World) (h:Mf K S w s ⟨fn,pc,l,st++[x]⟩) (hl:st.length≤1000):
 Calls Tryz.prog 139 #[.pointer (some ⟨K.gF,K.F.length*4,none⟩)] w fun e w'=>e= .returned (.int .u64 (x:Int))∧Mf K S w' s ⟨fn,pc,l,st⟩∧Trn S w w'∧w'.heap.size=w.heap.size∧∃u,w'=w.setCell ⟨K.gF,K.F.length*4+3,none⟩ u:=by
 have HC:=qBK (qE1 K 1 w h rfl (by omega));clear h hl
 go_enter Tryz.func139,Tryz.ntmps139
 go_wp2_with (first
  |(go_at_call 136
    refine HC.out.mono ?_;rintro e w1 ⟨A,c,rfl,hc1,hc2,hq,hm,ht⟩;obtain⟨a,rfl,-,hx,hb⟩:=qFn hq (k:=0) rfl;rw[qKd] at hx;have HM:=qBK hm;have HT:=qBK ht;clear hm ht hq hc2))
 go_ret;exact⟨rfl,HM.out,HT.out⟩
theorem qHF (w:World) {ops:Array Oper} {rest:List Oper} {o:Oper} {a:Act} {Q:Exit→Act→World→Prop} (hgd:o.guard=none) (s x:Operand)
 (ho:o.op= .call {callee:= .builtin .append,args:= #[s,x],argTypes:= #[25,25]})
 (v:Value) (n:Nat) (xs:List Nat) (hs:a.eval s=v) (hO:w.ownsRow 0 32 1 v n (Ns xs)) (A:Option Addr) (m d:Nat) (ys:List Nat) (hx:a.eval x= .slice A m d) (hl:ys.length=m) (T:Nat→Prop) (hS:Sq numL T w A ys) (hbig:n+m≤1000000)
 (h:∀v' w',w'.ownsRow 0 32 1 v' (n+m) (Ns (xs++ys))→w.grownBy w' v.ownBlock→(v'.ownBlock=v.ownBlock∨v'.ownBlock=some w.heap.size)→wpList Tryz.prog ops Q rest (a.put o.dst v') w'):wpList Tryz.prog ops Q (o::rest) a w:=by
 refine wpList_plain hgd fun _ hK=> ?_;obtain⟨i0,hi0,hz0,hz1,hz2⟩:=info_parts qEX;have hT:Tryz.prog.underlying 25=some (.slice 32):=Tryz.underlying25;rcases A with _|ad
 · have h0:ys=[]:=by
    cases ys with
    |nil=>rfl
    |cons y ys=>obtain⟨a,e,-⟩:=hS (by simp);cases e
   subst h0;have hl:0=m:=hl;subst hl;have ht:=run_underlying (P:=Tryz.prog) (w:=w) hT;have hrun:(Builtin.append_ #[25,25] o.type #[v,.slice none 0 d]).run Tryz.prog w= .ok v w:=by
    rcases hO.2 with⟨rfl,-⟩|⟨g,cap,cur,rfl,_,_,hnc,_⟩
    · simp[Builtin.append_,ht,sizeOf,typeInfo,hi0,Builtin.lenOf,Builtin.firstCells]
    · simp[Builtin.append_,ht,sizeOf,typeInfo,hi0,Builtin.lenOf,Builtin.firstCells,hnc,storeCells]
   unfold Oper.wp execOp;simp only[ho,resolve,invoke,builtin,Sem.run_bind,Sem.run_pure,Result.andThen_ok,List.map_toArray,List.map_cons,List.map_nil,hs,hx,hrun];exact hK _ _ (h v w (by simpa using hO) ⟨rfl,rfl,rfl,qBL _,fun _ _ _=>rfl⟩ (.inl rfl))
 · obtain⟨v',w',hrun,h2,h3,_,h5⟩:=run_append_own_at (P:=Tryz.prog) w 0 25 o.type 32 i0 _ 1 8 hT hi0 hz0 hz1 hz2 rfl qp v n (Ns xs) hO ad m d (Ns ys) (by rw[qBz,hl,Nat.mul_one])
    (fun j u hu=>by
      have hj:=(qBM.1 hu).1;rw[qBz] at hj;obtain⟨a,e,-,hc,-⟩:=qFn hS (List.getElem?_eq_getElem hj);obtain rfl:=Option.some.inj e;rw[qHB (List.getElem?_eq_getElem hj)] at hu;exact hc.trans hu) (qOs ys) (by simp only[maxLen];omega) (by omega) (qBU _)
   unfold Oper.wp execOp;simp only[ho,resolve,invoke,builtin,Sem.run_bind,Sem.run_pure,Result.andThen_ok,List.map_toArray,List.map_cons,List.map_nil,hs,hx,hrun];rw[←qOt] at h2;exact hK _ _ (h v' w' h2 h3 h5)
theorem qKs (K:Mch) (A:Option Addr) (m d:Nat) (w:World) (h:Mf K S w s ⟨fn,pc,l,st⟩) (hq:Sq numL (·<w.heap.size) w A ys) (hm:ys.length=m) (hl:st.length+m≤100000):
 Calls Tryz.prog 140 #[.pointer (some ⟨K.gF,K.F.length*4,none⟩),.slice A m d] w fun e w'=>e= .returned (.tuple #[])∧Mf K (Own S w w') w' s ⟨fn,pc,l,st++ys⟩∧Trn S w w':=by
 obtain⟨v1,c3,f3,hlt,ho,hob,hx,hcl⟩:=h.stk;have HE:Hid (∀v' w',w'.ownsRow 0 32 1 v' (st.length+m) (Ns (st++ys))→w.grownBy w' v1.ownBlock→(v'.ownBlock=v1.ownBlock∨v'.ownBlock=some w.heap.size)→w'.cell? ⟨K.gF,K.F.length*4+3,none⟩=some v1∧w'.frozen? ⟨K.gF,K.F.length*4+3,none⟩=false∧
  Mf K (Own S w (w'.setCell ⟨K.gF,K.F.length*4+3,none⟩ v')) (w'.setCell ⟨K.gF,K.F.length*4+3,none⟩ v') s ⟨fn,pc,l,st++ys⟩∧Trn S w (w'.setCell ⟨K.gF,K.F.length*4+3,none⟩ v')):=fun v' w' h1 h2 h3=>by
  have hk:=h2.block K.gF hlt fun e=>(hob _ e.symm).2 rfl;obtain⟨q1,q2⟩:=hcl w' v' (st++ys) (by rw[List.length_append,hm];exact h1) h2 (fun b hb=>by
   rcases h3 with e|e
   · exact .inl (by rw[←e];exact hb)
   · rw[e] at hb;injection hb with hb;exact .inr (by omega)) fun x hx'=>by
     rcases List.mem_append.1 hx' with q|q
     · exact hx x q
     · exact qEP hq x q
  exact⟨(qBd hk).trans c3,(World.frozen?_of_block hk).trans f3,q1.wide fun b _ hb=>by simpa[Own,World.setCell] using hb,q2⟩
 have HO:=qBK ho;have HQ:=qBK hq;have HM:=qBK hm;clear h hcl ho hx hob hq;generalize K.F.length*4=o at*
 go_enter Tryz.func140,Tryz.ntmps140
 go_wp2_with (first
  |(at_builtin
    refine qHF _ rfl (.tmp 8) (.tmp 9) rfl v1 st.length st rfl HO.out A m d ys rfl HM.out _ HQ.out (by omega) ?_;intro v' w' h1 h2 h3;obtain⟨B,cb,rfl,-,-⟩:=qC6 h1;obtain⟨a1,a2,a3⟩:=HE.out _ w' h1 h2 h3;have HR:=qBK a3;clear h1 h2 h3 a3))
 go_end0
 exact⟨rfl,HR.out⟩
theorem sq_laid (h:Blk w g 32 (Ns ys).toArray) (hS:S g) (hb:∀y∈ys,y<B64):Sq numL S w (some ⟨g,0,none⟩) ys:=fun hp=>
 ⟨_,rfl,hS,fun j x hx=>⟨[.int .u64 (x:Int)],fun i u hu=>by
   match i,hu with
   |0,hu=>
    simp at hu;subst hu;rw[add_zero,show j*numL.k+0=j by show j*1+0=j;omega,h.cell];simpa using qHB hx
   |i+1,hu=>simp at hu,rfl,hb x (qBQ hx)⟩⟩
theorem qMn (h:Blk w g 32 (Ns ys).toArray) (hb:∀y∈ys,y<B64):Sq numL (·<w.heap.size) w (some ⟨g,0,none⟩) ys:=sq_laid h h.lt hb
theorem Mf.below {K:Mch} (h:Mf K S w s f) (hb:Below w.heap.size w w'):Mf K S w' s f:=Mc.below h hb
theorem qEq {w1:World} (h:w.heap.size≤w1.heap.size):∀b,Own S w1 w' b→Own S w w' b:=fun b hb=>hb.elim .inl fun q=> .inr ⟨by omega,q.2⟩
theorem qLa (K:Mch) (n:Nat) (en:Int) (w:World) (h:Mf K S w s ⟨fn,pc,l,st⟩) (hn:n<B64) (hl:st.length≤1000):
 Calls Tryz.prog 138 #[.pointer (some ⟨K.gF,K.F.length*4,none⟩),.int .u64 (n:Int),.int .i64 en] w fun e w'=>e= .returned (.int .i64 en)∧Mf K (Own S w w') w' s ⟨fn,pc,l,if en=0 then st++[n] else st⟩∧Trn S w w':=by
 by_cases he:en=0
 · subst he
   have HC:Hid (∀V,V=w.alloc (.cells #[.int .u64 (n:Int)] 32)→Calls Tryz.prog 140 #[.pointer (some ⟨K.gF,K.F.length*4,none⟩),.slice (some ⟨w.heap.size,0,none⟩) 1 1] V fun e w'=>e= .returned (.tuple #[])∧Mf K (Own S V w') w' s ⟨fn,pc,l,st++[n]⟩∧Trn S V w'):=fun V hV=>
    qKs K (some ⟨w.heap.size,0,none⟩) 1 1 V (h.below (by rw[hV];exact(qBO _ _).alloc (qBL _) _)) (qMn (ys:=[n]) (by rw[hV];exact qBl rfl) (by simpa using hn)) rfl (by omega)
   clear h
   go_enter Tryz.func138,Tryz.ntmps138
   go_wp2_with (first
    |(go_at_call 140
      refine(HC.out _ rfl).mono ?_;rintro e w1 ⟨rfl,hm,ht⟩;have HM:=qBK hm;have HT:=qBK ht;clear hm ht))
   go_ret;exact⟨rfl,HM.out.wide fun b _=>qEq (by simp) b,(Trn.of_below ((qBO _ w).alloc (qBL _) _)).trans HT.out fun _ _ q=>q⟩
 · have he':(en==0)=false:=by simpa using he
   have HM:=qBK h;clear h
   go_enter Tryz.func138,Tryz.ntmps138
   go_wp2
   go_ret;exact⟨rfl,HM.out.wide fun b _ hb=> .inl hb,Trn.refl _ _⟩
def atO (O:List Ob) (r:Nat):Option Ob:=if r=0 then none else O[r-1]?
def wordA (O:List Ob) (r n:Nat):Nat×Int:=
 match atO O r with
 |none=>(0,4)
 |some o=>match o.words[n]? with
  |none=>(0,3)
  |some x=>(x,0)
def byteA (O:List Ob) (r n:Nat):Nat×Int:=
 match atO O r with
 |none=>(0,4)
 |some o=>match o.bytes[n]? with
  |none=>(0,3)
  |some x=>(x,0)
def setWordA (O:List Ob) (r n x:Nat):List Ob×Int:=
 match atO O r with
 |none=>(O,4)
 |some o=>if n<o.words.length then (O.set (r-1) {o with words:=o.words.set n x},0) else (O,3)
def setByteA (O:List Ob) (r n x:Nat):List Ob×Int:=
 match atO O r with
 |none=>(O,4)
 |some o=>if n<o.bytes.length then (O.set (r-1) {o with bytes:=o.bytes.set n x},0) else (O,3)
def lenA (O:List Ob) (r:Nat):Int×Int:=
 match atO O r with
 |none=>(0,4)
 |some o=>(if o.kind=2 then (o.bytes.length:Int) else (o.words.length:Int),0)
theorem qIt (n:Int) (w:World) (hn:I64 n):Calls Tryz.prog 110 #[.int .i64 n] w fun e w'=>e= .returned (.int .i64 (max (-1099511627776) (min n 1099511627776)))∧w=w':=by
 unfold I64 at hn
 go_enter Tryz.func110,Tryz.ntmps110
 go_wp2
 all_goals go_ret
 all_goals(refine⟨qHP (k:= .i64) ?_,rfl⟩;simp only[Int.max_def,Int.min_def] at *;repeat' split at* <;>omega)
structure Tch (lo hi:Nat) (a b:World):Prop where
 os:b.os=a.os
 tape:b.tape=a.tape
 output:b.output=a.output
 size:b.heap.size=a.heap.size
 block:∀k,k<lo∨hi≤k→b.heap[k]? =a.heap[k]?
theorem Tch.refl (lo hi:Nat) (a:World):Tch lo hi a a:=⟨rfl,rfl,rfl,rfl,fun _ _=>rfl⟩
theorem Tch.set {lo hi:Nat} (h:Tch lo hi a b) {i:Nat} {u:Value} (h1:lo≤g) (h2:g<hi):Tch lo hi a (b.setCell ⟨g,i,none⟩ u):=
 ⟨h.os,h.tape,h.output,by simpa[World.setCell] using h.size,fun k hk=>(qBP _ _ _ _ (by show k≠g;omega)).trans (h.block k hk)⟩
theorem Tch.below {lo hi:Nat} (h:Tch lo hi a b):Below lo a b:=⟨h.os,h.tape,h.output,by rw[h.size];exact qBL _,fun k hk=>h.block k (.inl hk)⟩
theorem qKQ {W w1 w2 wf:World} {o:Ob} {v1 v2:Value} {p q:Nat} (hs:W.heap.size=w.heap.size+2) (h1:Below W.heap.size W w1) (h2:Below w1.heap.size w1 w2) (o1:w1.ownsRow W.heap.size 32 1 v1 p (Ns o.words)) (o2:w2.ownsRow w1.heap.size 5 1 v2 q (Bs o.bytes))
 (hx:(∀x∈o.bytes,x<256)∧(∀x∈o.words,x<B64)∧I64 o.kind∧I64 o.n) {kk nn:Int} (ek:o.kind=kk) (en:o.n=nn) (hf:Tch w.heap.size W.heap.size w2 wf):
 Obj1 (fun b=>w.heap.size≤b∧b<w1.heap.size) (fun b=>w1.heap.size≤b∧b<wf.heap.size) wf [.int .i64 kk,.int .i64 nn,v1,v2] o:=by
 subst ek en;have hfs:=hf.size;have s1:=h1.size;have s2:=h2.size;refine⟨v1,v2,rfl,hx.2.2.1,hx.2.2.2,hx.2.1,hx.1,?_,?_⟩
 · exact((Part.of_own o1).keep fun b hb=>(hf.block b (.inr hb.1)).trans (h2.block b hb.2)).wide fun b _ hb=>⟨by omega,hb.2⟩
 · exact((Part.of_own o2).keep fun b hb=>hf.block b (by omega)).wide fun b _ hb=>⟨hb.1,by omega⟩
theorem qKR (cs:List Value) (o:Ob) (w:World) (h:obL.R (·<w.heap.size) w cs o) (hz:o.small):Calls Tryz.prog 163 #[vAgg cs] w fun e w'=>
 ∃cs' m,e= .returned (vAgg cs')∧(w.heap.size≤m∧m≤w'.heap.size)∧Obj1 (fun b=>w.heap.size≤b∧b<m) (fun b=>m≤b∧b<w'.heap.size) w' cs' o∧Below w.heap.size w w':=by
 obtain⟨A,c,B,d,rfl,-,-,-,-,hW,hB,hB2,hk,hn⟩:=qC7 h;have HW:=qBK hW;have HB:=qBK hB;have HX:Hid ((∀x∈o.bytes,x<256)∧(∀x∈o.words,x<B64)∧I64 o.kind∧I64 o.n):=⟨hB2,qEP hW,hk,hn⟩;obtain⟨z0,z1⟩:=hz;obtain⟨p,hp⟩:∃p,o.words.length=p:=⟨_,rfl⟩;obtain⟨q,hq⟩:∃q,o.bytes.length=q:=⟨_,rfl⟩
 show Calls Tryz.prog 163 #[.agg #[.int .i64 o.kind,.int .i64 o.n,.slice A o.words.length c,.slice B o.bytes.length d]] w _
 rw[hp] at z0⊢;rw[hq] at z1⊢;have HP:=qBK hp;have HQ:=qBK hq;clear h hW hB hB2 hk hn hp hq;obtain⟨kk,ek⟩:∃k,o.kind=k:=⟨_,rfl⟩;obtain⟨nn,en⟩:∃k,o.n=k:=⟨_,rfl⟩;rw[ek,en];have EK:=qBK ek;have EN:=qBK en;clear ek en
 go_enter Tryz.func163,Tryz.ntmps163
 go_upto_region 1 with(fail)
 refine qBV fun W hWd=> ?_;have b0:Blk W w.heap.size 78 #[.int .i64 kk,.int .i64 nn,.slice A p c,.slice B q d]:=by rw[hWd];exact qBc (qBl rfl)
 have b1:Blk W (w.heap.size+1) 78 #[.int .i64 0,.int .i64 0,.slice none 0 0,.slice none 0 0]:=by rw[hWd];exact qBl (by simp)
 have hs:W.heap.size=w.heap.size+2:=by rw[hWd];simp
 have HBW:Hid (Below w.heap.size w W):=by show Below _ _ _;rw[hWd];exact((qBO _ _).alloc (qBL _) _).alloc (by simp) _
 have H0:=qBK b0;have H1:=qBK b1;clear hWd;have c00:=b0.cell 0;have c01:=b0.cell 1;have c02:=b0.cell 2;have c03:=b0.cell 3;have fr1:=fun(V:World) (hb:Below W.heap.size W V) (i:Nat)=>(hb.frozen (p:=⟨w.heap.size+1,i,none⟩) zF).trans (b1.frozen i);have fr:=fun(V:World) (hb:Below W.heap.size W V) (i:Nat)=>(hb.frozen (p:=⟨w.heap.size,i,none⟩) q7).trans (b0.frozen i);clear b0 b1
 go_region_with (first
  |(go_at_call 67
    refine(qDd A p c o.words W.drew HP.out ((HW.out.keep fun b hb=>HBW.out.block b hb).wide fun b hb=>(by show b<W.heap.size;omega)) (by omega)).mono ?_;rintro e w1 ⟨v1,rfl,hown1,hb1'⟩;have hb1:Below W.heap.size W w1:=(qBO _ W).drew.trans hb1';obtain⟨A1,n1,c1,rfl⟩:=qGd hown1;have HO1:Hid (w1.ownsRow W.heap.size 32 1 (.slice A1 n1 c1) p (Ns o.words)):=hown1;have HB1:=qBK hb1;have s1:W.heap.size≤w1.heap.size:=hb1.size;have c10:=(hb1.cell (p:=⟨w.heap.size,3,none⟩) q7).trans c03;clear hown1 hb1 hb1')
  |(go_at_call 68
    refine(qF9 B q d o.bytes w1 HQ.out ((HB.out.keep fun b hb=>(HB1.out.block b (by omega)).trans (HBW.out.block b hb)).wide fun b hb=>(by omega)) (by omega)).mono ?_;rintro e w2 ⟨v2,rfl,hown2,hb2⟩;obtain⟨A2,n2,c2,rfl⟩:=qGd hown2;have HO2:=qBK hown2;have HB2:=qBK hb2;have s2:=hb2.size;have g0:=(((hb2.mono HB1.out.size).cell (p:=⟨w.heap.size,0,none⟩) q7).trans (HB1.out.cell (p:=⟨w.heap.size,0,none⟩) q7)).trans c00;have g1:=(((hb2.mono HB1.out.size).cell (p:=⟨w.heap.size,1,none⟩) q7).trans (HB1.out.cell (p:=⟨w.heap.size,1,none⟩) q7)).trans c01;have g2:=(((hb2.mono HB1.out.size).cell (p:=⟨w.heap.size,2,none⟩) q7).trans (HB1.out.cell (p:=⟨w.heap.size,2,none⟩) q7)).trans c02;have g3:=(((hb2.mono HB1.out.size).cell (p:=⟨w.heap.size,3,none⟩) q7).trans (HB1.out.cell (p:=⟨w.heap.size,3,none⟩) q7)).trans c03;have f0:=fr w2 (HB1.out.trans (hb2.mono HB1.out.size)) 2;have f1:=fr w2 (HB1.out.trans (hb2.mono HB1.out.size)) 3;have r0:=fr1 w2 (HB1.out.trans (hb2.mono HB1.out.size)) 0;have r1:=fr1 w2 (HB1.out.trans (hb2.mono HB1.out.size)) 1;have r2:=fr1 w2 (HB1.out.trans (hb2.mono HB1.out.size)) 2;have r3:=fr1 w2 (HB1.out.trans (hb2.mono HB1.out.size)) 3;have q0:=((hb2.mono HB1.out.size).cell (p:=⟨w.heap.size+1,0,none⟩) zF).trans ((HB1.out.cell (p:=⟨w.heap.size+1,0,none⟩) zF).trans (H1.out.cell 0));have q1:=((hb2.mono HB1.out.size).cell (p:=⟨w.heap.size+1,1,none⟩) zF).trans ((HB1.out.cell (p:=⟨w.heap.size+1,1,none⟩) zF).trans (H1.out.cell 1));have q2:=((hb2.mono HB1.out.size).cell (p:=⟨w.heap.size+1,2,none⟩) zF).trans ((HB1.out.cell (p:=⟨w.heap.size+1,2,none⟩) zF).trans (H1.out.cell 2));have q3:=((hb2.mono HB1.out.size).cell (p:=⟨w.heap.size+1,3,none⟩) zF).trans ((HB1.out.cell (p:=⟨w.heap.size+1,3,none⟩) zF).trans (H1.out.cell 3));clear hown2 hb2))
 all_goals(go_wp2_with fail)
 all_goals(
  refine bodyPost_ret (v:= .agg #[.int .i64 kk,.int .i64 nn,.slice A1 n1 c1,.slice A2 n2 c2]) (by simp[results,Tryz.results163,go_sem,g0,g1,g2,g3,q0,q1,q2,q3]) rfl ⟨[.int .i64 kk,.int .i64 nn,.slice A1 n1 c1,.slice A2 n2 c2],w1.heap.size,rfl,⟨by omega,by simpa[World.setCell] using s2⟩,?_,?_⟩
  · refine qKQ hs HB1.out HB2.out HO1.out HO2.out HX.out EK.out EN.out ?_
    repeat(with_reducible refine Tch.set ?_ (by omega) (by omega))
    exact Tch.refl _ _ _
  · refine(HBW.out.trans ((HB1.out.mono (by omega)).trans (HB2.out.mono (by omega)))).trans (Tch.below (hi:=W.heap.size) ?_)
    repeat(with_reducible refine Tch.set ?_ (by omega) (by omega))
    exact Tch.refl _ _ _)
theorem qI7 (cs:List Value) (o:Ob) (w:World) (h:obL.R (·<w.heap.size) w cs o) (hz:o.small):Calls Tryz.prog 163 #[vAgg cs] w fun e w'=>
 ∃A c B d m,e= .returned (.agg #[.int .i64 o.kind,.int .i64 o.n,.slice A o.words.length c,.slice B o.bytes.length d])∧(w.heap.size≤m∧m≤w'.heap.size)∧Obj1 (fun b=>w.heap.size≤b∧b<m) (fun b=>m≤b∧b<w'.heap.size) w' [.int .i64 o.kind,.int .i64 o.n,.slice A o.words.length c,.slice B o.bytes.length d] o∧Below w.heap.size w w':=by
 refine(qKR cs o w h hz).mono ?_;rintro e w' ⟨cs',m,rfl,hm,ho,hb⟩;obtain⟨A,c,B,d,rfl,-,-⟩:=ho.parts;exact⟨A,c,B,d,m,rfl,hm,ho,hb⟩
theorem qMj {O:List Ob} {o:Ob} (hl:O.length=n) (hk:O[k]? =some o):(O.take k++List.replicate (n-k) ob0).set k o=O.take (k+1)++List.replicate (n-(k+1)) ob0:=by
 obtain⟨h,rfl⟩:=qBM.1 hk;rw[List.set_append_right _ _ qK,qBW h,List.append_assoc]
 congr 1
 obtain⟨m,hm⟩:∃m,n-k=m+1:=⟨n-k-1,by omega⟩;rw[hm,List.replicate_succ,show n-(k+1)=m by omega];simp[Nat.min_eq_left (Nat.le_of_lt h)]
theorem qF7 (A:Option Addr) (n c:Nat) (O:List Ob) (w:World) (hl:O.length=n) (h:Sq obL (·<w.heap.size) w A O) (hz:∀o∈O,o.small) (hn:n≤100000):Calls Tryz.prog 109 #[.slice A n c] w fun e w'=>
 ∃v css tag,e= .returned v∧Row (fun b=>w.heap.size≤b∧b<w'.heap.size) tag w' v css O∧Below w.heap.size w w':=by
 refine j6 ?_;intro HL HS;have HZ:=qBK hz;have M1:=qH9 n (by omega);clear hl h hz
 go_enter Tryz.func109,Tryz.ntmps109
 go_upto_region 3 with(fail)
 refine qBV fun W hW=> ?_;have HR0:Hid (Row (fun b=>w.heap.size≤b∧b<W.heap.size) (fun _=>1) W (.slice (some ⟨w.heap.size,0,none⟩) n n) (List.replicate n zer4) (List.replicate n ob0)):=by
  have:=Row.made w n (by omega);rw[←hW] at this;exact this.wide fun b hb=>by subst hb;exact⟨qBL _,by rw[hW];simp⟩
 have HB0:Hid (Below w.heap.size w W):=by show Below _ _ _;rw[hW];exact(qBO _ _).alloc (qBL _) _
 have s0:w.heap.size<W.heap.size:=by rw[hW];simp
 clear hW M1
 go_loopw [11] (fun i wr=>∃k:Nat,k≤n∧i= .int .i64 (k:Nat)∧Below w.heap.size w wr∧w.heap.size<wr.heap.size∧∃css tag,Row (fun b=>w.heap.size≤b∧b<wr.heap.size) tag wr (.slice (some ⟨w.heap.size,0,none⟩) n n) css (O.take k++List.replicate (n-k) ob0)) (fun i _=>n-(intOf i).toNat)
 case atStart=>exact⟨0,qBU _,rfl,HB0.out,s0,_,_,by simpa using HR0.out⟩
 case round=>
  obtain⟨k,hk,rfl,hbel,hsz,css,tag,hrow⟩:=hrel;have HB:=qBK hbel;have HR:=qBK hrow;clear hbel hrow HR0 HB0
  by_cases hlt:k<n
  · obtain⟨o,ho⟩:∃o,O[k]? =some o:=⟨O[k]'qU,List.getElem?_eq_getElem _⟩
    obtain⟨a,cs,ea,hab,hc,hR⟩:=HS.out.at ho;have HO:=qBK ho;have HQ:=qBK hR;clear ho;subst ea;obtain⟨A0,c0,B0,d0,rfl,-⟩:=qC7 hR;clear hR;have ca0:=(HB.out.cell (p:=a.add (k*4)) qD).trans (hc 0 _ rfl);have ca1:=(HB.out.cell (p:=a.add (k*4+1)) qD).trans (hc 1 _ rfl);rw[qBT a (k*4) 1 (by omega)] at ca1;have ca2:=(HB.out.cell (p:=a.add (k*4+2)) qD).trans (hc 2 _ rfl);rw[qBT a (k*4) 2 (by omega)] at ca2;have ca3:=(HB.out.cell (p:=a.add (k*4+3)) qD).trans (hc 3 _ rfl);rw[qBT a (k*4) 3 (by omega)] at ca3;clear hc;have hcall:Hid (∀V,Below wr.heap.size wr V→Calls Tryz.prog 163 #[.agg #[.int .i64 o.kind,.int .i64 o.n,.slice A0 o.words.length c0,.slice B0 o.bytes.length d0]] V fun e w'=>
     ∃A c B d m,e= .returned (.agg #[.int .i64 o.kind,.int .i64 o.n,.slice A o.words.length c,.slice B o.bytes.length d])∧(V.heap.size≤m∧m≤w'.heap.size)∧Obj1 (fun b=>V.heap.size≤b∧b<m) (fun b=>m≤b∧b<w'.heap.size) w' [.int .i64 o.kind,.int .i64 o.n,.slice A o.words.length c,.slice B o.bytes.length d] o∧Below V.heap.size V w'):=fun V hV=>by
     have hb:=HB.out.trans (hV.mono (Nat.le_of_lt hsz));exact qI7 _ o V (obL.wide (obL.keep HQ.out fun b hb1=>hb.block b hb1) fun b hb1=>qBN hb1 hb.size) (HZ.out o (qBQ HO.out))
    generalize o.kind=kk at*;generalize o.n=nn at*;generalize o.words.length=pp at*;generalize o.bytes.length=qq at*
    go_upto_region 5 with(fail)
    refine qBV fun V hV=> ?_;have HBV:Hid (Below wr.heap.size wr V):=by show Below _ _ _;rw[hV];exact(qBO _ _).alloc (qBL _) _
    have b0:Blk V wr.heap.size 78 #[.int .i64 kk,.int .i64 nn,.slice A0 pp c0,.slice B0 qq d0]:=by rw[hV];exact qBl rfl
    have sV:V.heap.size=wr.heap.size+1:=by rw[hV];simp
    clear hV ca0 ca1 ca2 ca3;have e0:=b0.cell 0;have e1:=b0.cell 1;have e2:=b0.cell 2;have e3:=b0.cell 3;clear b0;have HRV:Hid (Row (fun b=>w.heap.size≤b∧b<wr.heap.size) tag V (.slice (some ⟨w.heap.size,0,none⟩) n n) css (O.take k++List.replicate (n-k) ob0)):=HR.out.keep fun b hb _=>HBV.out.block b hb.2;have HlO:Hid ((O.take k++List.replicate (n-k) ob0).length=n):=by show List.length _=n;have:=HL.out;simp;omega
    go_upto_region 6 with(first
     |(go_at_call 163
       refine(hcall.out V HBV.out).mono ?_;rintro e w1 ⟨A1,c1,B1,d1,m,rfl,⟨hm1,hm2⟩,hob,hb1⟩;have HR1:Hid (Row (fun b=>w.heap.size≤b∧b<wr.heap.size) tag w1 (.slice (some ⟨w.heap.size,0,none⟩) n n) css (O.take k++List.replicate (n-k) ob0)):=HRV.out.keep fun b hb _=>hb1.block b (by omega);have HO1:=qBK hob;have HB1:=qBK hb1;have s1:=hb1.size;have fr:=fun i=>HR1.out.frozen0 rfl (by rw[HlO.out];omega) i;have fr0:=fr (k*4);have fr1:=fr (k*4+1);have fr2:=fr (k*4+2);have fr3:=fr (k*4+3);obtain⟨x0,x1,x2,x3,g0,g1,g2,g3⟩:=HR1.out.four (j:=k) (by rw[HlO.out];omega);clear hob hb1 fr))
    refine qBV fun V2 hV2=> ?_;obtain⟨tag',hrow',-⟩:=HR1.out.put (j:=k) (by rw[HlO.out];omega) HO1.out (fun b (hb:V.heap.size≤b∧b<m) (hs:w.heap.size≤b∧b<wr.heap.size)=>by omega) (fun b (hb:m≤b∧b<w1.heap.size) (hs:w.heap.size≤b∧b<wr.heap.size)=>by omega) (fun b (hb:V.heap.size≤b∧b<m) (hs:m≤b∧b<w1.heap.size)=>by omega);rw[qMj HL.out HO.out] at hrow';have HR2:Hid (Row (fun b=>w.heap.size≤b∧b<V2.heap.size) tag' V2 (.slice (some ⟨w.heap.size,0,none⟩) n n) (css.set k [.int .i64 kk,.int .i64 nn,.slice A1 pp c1,.slice B1 qq d1]) (O.take (k+1)++List.replicate (n-(k+1)) ob0)):=by
     rw[hV2];refine(show Row _ _ (put4 w1 w.heap.size (k*4) _ _ _ _) _ _ _ from hrow').wide fun b hb=> ?_;have:=qGf w1 w.heap.size (k*4) (.int .i64 kk) (.int .i64 nn) (.slice A1 pp c1) (.slice B1 qq d1);unfold put4 at this;rw[this];rcases hb with(hb:w.heap.size≤b∧b<wr.heap.size)|(hb:V.heap.size≤b∧b<m)|(hb:m≤b∧b<w1.heap.size)
     · omega
     · omega
     · omega
    have s2:V2.heap.size=w1.heap.size:=by
     rw[hV2];exact qGf w1 w.heap.size (k*4) (.int .i64 kk) (.int .i64 nn) (.slice A1 pp c1) (.slice B1 qq d1)
    have HB2:Hid (Below w.heap.size w V2):=by
     show Below _ _ _
     rw[hV2];exact(HB.out.trans ((HBV.out.trans (HB1.out.mono (by omega))).mono (by omega))).trans (qCN (qLb w1 w.heap.size (k*4) (.int .i64 kk) (.int .i64 nn) (.slice A1 pp c1) (.slice B1 qq d1)) (qBL _) (by omega))
    clear hV2 hrow' fr0 fr1 fr2 fr3 g0 g1 g2 g3 e0 e1 e2 e3
    go_wp2_with fail
    exact⟨⟨k+1,by omega,by simp,HB2.out,by omega,_,_,HR2.out⟩,by simp[intOf];omega⟩
  obtain rfl:k=n:=by omega
  go_wp2_with fail
  go_ret;refine⟨_,css,tag,rfl,?_,HB.out⟩;have:=HR.out;rw[Nat.sub_self,qBS qa,List.replicate_zero,List.append_nil] at this;exact this
end Go.Proofs.YtgdbhanhmenmfaaGreat
