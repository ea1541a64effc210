/-
Ml Mna Mnb Mnc Mnd Mga Mgc Mgb Mne Mnf
-/
import Derived.Test.YtgdbhanhmenmfaaGreatQ11
import Derived.Deep.RegionHeld3
set_option linter.unusedSimpArgs false
set_option linter.unusedVariables false
set_option maxRecDepth 100000
set_option maxHeartbeats 1000000
namespace Go.Proofs.YtgdbhanhmenmfaaGreat
open Go.RowKit
variable {P:Pr}{S:Nat→Prop}{css:List (List Value)}{f:Frm}{fn:Int}{gh gm go j:Nat}{l:List Nat}{m:Mod}{pc:Int}{s:Stt}{st:List Nat}{v:Value}{w:World}
theorem Mi.cell {tg:Nat→Nat} {p0 p1 p2 p3 p4:Value} {css':List (List Value)} {v':Value} {s':Stt} {i:Nat} {u:Value} (h:Mi tg p0 p1 p2 p3 p4 css S m gm go gh v w s)
 (hb:(#[Value.pointer (some ⟨go,0,none⟩),.pointer (some ⟨gh,0,none⟩),.int .i64 s.quota,.int .i64 s.fin,.int .u64 (s.val:Int),p0,p1,p2,p3,p4,v]:Array Value).setIfInBounds i u= #[.pointer (some ⟨go,0,none⟩),.pointer (some ⟨gh,0,none⟩),.int .i64 s'.quota,.int .i64 s'.fin,.int .u64 (s'.val:Int),p0,p1,p2,p3,p4,v'])
 (e1:s'.hp=s.hp) (e2:s'.hn=s.hn) (e3:s'.used=s.used) (e4:s'.quota=s.quota) (hf:Fr tg w v css s.fr→Fr tg w v' css' s'.fr) (ok:I64 s'.fin∧s'.val<B64):Mi tg p0 p1 p2 p3 p4 css' S m gm go gh v' (w.setCell ⟨gm,i,none⟩ u) s':=by
 have hk:∀b,tg b≠1→(w.setCell ⟨gm,i,none⟩ u).heap[b]? =w.heap[b]? :=fun b hb=>qBP _ _ _ _ fun(e:b=gm)=>hb (by rw[e];exact h.tgm);have hs:(w.setCell ⟨gm,i,none⟩ u).heap.size=w.heap.size:=by simp[World.setCell]
 refine⟨fun b hb=>by rw[hs];exact h.own b hb,?_,h.tgm,modL.keep h.md fun b hb=>hk b (by omega),?_,?_,(hf h.fr).keep (fun b hb=>hk b (by omega)) fun b _=>rfl,⟨by rw[e4];exact h.ok.1,ok⟩⟩
 · have:=h.blk.set i u
   rw[hb] at this;exact this
 · rw[e1,e3,e4]
   exact h.hp.keep (fun b _ hb=>hk b (by omega)) fun b hb=>(h.own b (by omega)).2
 · rw[e2]
   exact h.tb.keep fun b _ hb=>hk b (by omega)
theorem Mc.cells (h:Mc S m gm go gh P v w s):gm<w.heap.size∧S gm∧(∀i,w.frozen? ⟨gm,i,none⟩=false)∧w.cell? ⟨gm,0,none⟩=some (.pointer (some ⟨go,0,none⟩))∧w.cell? ⟨gm,1,none⟩=some (.pointer (some ⟨gh,0,none⟩))∧w.cell? ⟨gm,2,none⟩=some (.int .i64 s.quota)∧w.cell? ⟨gm,3,none⟩=some (.int .i64 s.fin)∧w.cell? ⟨gm,4,none⟩=some (.int .u64 (s.val:Int))∧w.cell? ⟨gm,10,none⟩=some v∧
 (∃A c,v= .slice A s.fr.length c∧s.fr.length≤c∧c≤maxLen)∧modL.R (fun b=>S b∧b<w.heap.size) w [P.p0,P.p1,P.p2,P.p3,P.p4] m∧w.cell? ⟨gm,6,none⟩=some P.p1∧w.cell? ⟨gm,7,none⟩=some P.p2:=by
 obtain⟨tg,css,q⟩:=h;exact⟨q.blk.lt,(q.own gm qr).1,fun i=>q.blk.frozen i,q.blk.cell 0,q.blk.cell 1,q.blk.cell 2,q.blk.cell 3,q.blk.cell 4,q.blk.cell 10,qC6 q.fr.2.1,modL.wide q.md fun b hb=>q.own b (by omega),q.blk.cell 6,q.blk.cell 7⟩
theorem qGO (hk:∀cs∈css,cs.length=4) (k:Nat):css.flatten.take (k*4)=(css.take k).flatten:=by
 induction css generalizing k with
 |nil=>simp
 |cons c css ih=>
  cases k with
  |zero=>simp
  |succ k=>
   have h4:=hk c (by simp);rw[List.flatten_cons,List.take_append,qBS (by omega),h4,show(k+1)*4-4=k*4 by omega,ih fun x hx=>hk x zN,List.take_succ_cons,List.flatten_cons]
theorem Fr.cut {tg:Nat→Nat} {A:Option Addr} {n c:Nat} {F:List Frm} (h:Fr tg w (.slice A n c) css F) (k:Nat) (hk:k≤F.length) (hn:n=F.length):Fr tg w (.slice A k c) (css.take k) (F.take k):=by
 subst hn;have ho:=qKx h.2.1 hk;rw[qGO h.len4] at ho;refine⟨by rw[List.length_take,List.length_take,h.1],by rw[List.length_take,Nat.min_eq_left hk];exact ho,fun b e=>h.2.2.1 b (by cases A<;>exact e),fun j f cs h1 h2=> ?_⟩;rw[List.getElem?_take] at h1 h2;split at h1
 · rw[if_pos (by assumption)] at h2
   exact h.2.2.2 j f cs h1 h2
 · cases h1
theorem Mc.pop {A:Option Addr} {n c:Nat} (h:Mc S m gm go gh P (.slice A n c) w s) (k:Nat) (hk:k≤s.fr.length):Mc S m gm go gh P (.slice A k c) (w.setCell ⟨gm,10,none⟩ (.slice A k c)) {s with fr:=s.fr.take k}:=by
 obtain⟨A',c',e,-,-⟩:=h.cells.2.2.2.2.2.2.2.2.2.1;injection e with e1 e2 e3;obtain⟨tg,css,q⟩:=h;exact⟨tg,css.take k,q.cell rfl rfl rfl rfl rfl (fun hf=>hf.cut k hk e2) ⟨q.ok.2.1,q.ok.2.2⟩⟩
theorem Mc.bare (h:Mc S m gm go gh P v w s):Mc S m gm go gh P (.slice none 0 0) (w.setCell ⟨gm,10,none⟩ (.slice none 0 0)) {s with fr:=[]}:=by
 obtain⟨tg,css,q⟩:=h;exact⟨tg,[],q.cell rfl rfl rfl rfl rfl (fun hf=>⟨rfl,World.ownsRow_nil _ _ _ _,fun b e=>by simp[Value.ownBlock] at e,fun j f cs h=>by simp at h⟩) ⟨q.ok.2.1,q.ok.2.2⟩⟩
theorem Mc.value (h:Mc S m gm go gh P v w s) (x:Nat) (hx:x<B64):Mc S m gm go gh P v (w.setCell ⟨gm,4,none⟩ (.int .u64 (x:Int))) {s with val:=x}:=by
 obtain⟨tg,css,q⟩:=h;exact⟨tg,css,q.cell rfl rfl rfl rfl rfl (fun hf=>hf) ⟨q.ok.2.1,hx⟩⟩
theorem Mc.ending (h:Mc S m gm go gh P v w s) (x:Int) (hx:I64 x):Mc S m gm go gh P v (w.setCell ⟨gm,3,none⟩ (.int .i64 x)) {s with fin:=x}:=by
 obtain⟨tg,css,q⟩:=h;exact⟨tg,css,q.cell rfl rfl rfl rfl rfl (fun hf=>hf) ⟨hx,q.ok.2.2⟩⟩
theorem Mc.newHeap {T:Nat→Prop} (h:Mc S m gm go gh P v w s) {g:Nat} {O:List Ob} {u:Int} (hO:IsHp T w g O s.quota u) (hT:∀b,T b→¬S b∧b<w.heap.size):
 Mc (fun b=>S b∨T b) m gm g gh P v (w.setCell ⟨gm,0,none⟩ (.pointer (some ⟨g,0,none⟩))) {s with hp:=O,used:=u}:=by
 classical
 obtain⟨tg,css,q⟩:=h;have hSg:S gm:=(q.own gm qr).1;have hk:∀b,b≠gm→(w.setCell ⟨gm,0,none⟩ (.pointer (some ⟨g,0,none⟩))).heap[b]? =w.heap[b]? :=fun b hb=>qBP _ _ _ _ hb;have hs:(w.setCell ⟨gm,0,none⟩ (.pointer (some ⟨g,0,none⟩))).heap.size=w.heap.size:=by simp[World.setCell]
 obtain⟨tg',t1,t2,t3⟩:∃tg':Nat→Nat,(∀b,¬T b→tg b≠2→tg' b=tg b)∧(∀b,T b→tg' b=2)∧∀b,tg' b≠0→T b∨(tg b≠0∧tg' b=tg b):=by
  refine⟨fun b=>if T b then 2 else if tg b=2 then 0 else tg b,fun b h1 h2=>by simp[h1,h2],fun b h1=>by simp[h1],fun b hb=> ?_⟩
  by_cases h1:T b
  · exact .inl h1
  · have hb:(if T b then 2 else if tg b=2 then 0 else tg b)≠0:=hb
    rw[if_neg h1] at hb;split at hb
    · exact absurd rfl hb
    · exact .inr ⟨hb,by show(if T b then 2 else if tg b=2 then 0 else tg b)=tg b;rw[if_neg h1,if_neg (by assumption)]⟩
 have hn:∀b,tg b≠0→¬T b:=fun b h1 h2=>(hT b h2).1 (q.own b h1).1;have t4:∀b,tg b≠0→tg b≠2→tg' b=tg b:=fun b h1 h2=>t1 b (hn b h1) h2;refine⟨tg',css,fun b hb=> ?_,?_,by rw[t4 gm qr qr];exact q.tgm,modL.wide (modL.keep q.md fun b hb=>hk b fun e=>by rw[e,q.tgm] at hb;omega) fun b hb=>by rw[t4 b (by omega) (by omega)];exact hb,
  (hO.keep (fun b _ hb=>hk b fun e=>(hT b hb).1 (by rw[e];exact hSg)) fun b hb=>(hT b hb).2).wide t2,(q.tb.keep fun b _ hb=>hk b fun e=>by rw[e,q.tgm] at hb;omega).wide fun b _ hb=>by rw[t4 b (by omega) (by omega)];exact hb,
  q.fr.keep (fun b hb=>hk b fun e=>by rw[e,q.tgm] at hb;omega) fun b hb=>t4 b (by omega) (by omega),q.ok⟩
 · rw[hs]
   rcases t3 b hb with h1|h1
   · exact⟨.inr h1,(hT b h1).2⟩
   · exact⟨.inl (q.own b h1.1).1,(q.own b h1.1).2⟩
 · exact q.blk.set 0 _
theorem Mc.push {cs:List Value} {Q:Nat→Prop} (h:Mc S m gm go gh P v w s) (hS:∀b,S b→b<w.heap.size) (hf:Frm1 Q (fun _=>False) w cs f) (hQ:∀b,Q b→¬S b∧b<w.heap.size):
 ∃css:List (List Value),w.ownsRow 0 80 4 v s.fr.length css.flatten∧∀(v':Value) (w1:World),w1.ownsRow 0 80 4 v' (s.fr.length+1) (css.flatten++cs)→w.grownBy w1 v.ownBlock→(v'.ownBlock=v.ownBlock∨v'.ownBlock=some w.heap.size)→
  w1.cell? ⟨gm,10,none⟩=some v∧w1.frozen? ⟨gm,10,none⟩=false∧Mc (fun b=>Own S w w1 b∨Q b) m gm go gh P v' (w1.setCell ⟨gm,10,none⟩ v') {s with fr:=s.fr++[f]}∧Trn S w (w1.setCell ⟨gm,10,none⟩ v'):=by
 classical
 obtain⟨tg,css,q⟩:=h;refine⟨css,q.fr.2.1,fun v' w1 ho hg hv=> ?_⟩;have hv5:∀b,v.ownBlock=some b→tg b=5:=q.fr.2.2.1;have hk:∀b,tg b≠0→tg b≠5→w1.heap[b]? =w.heap[b]? :=fun b h1 h2=>hg.block b (q.own b h1).2 fun e=>h2 (hv5 b e.symm);have hkq:∀b,Q b→w1.heap[b]? =w.heap[b]? :=fun b hb=>hg.block b (hQ b hb).2 fun e=>(hQ b hb).1 (q.own b (by have:=hv5 b e.symm;omega)).1;have hgm:=hk gm qr qr;obtain⟨tg',t1,t2,t3⟩:∃tg':Nat→Nat,(∀b,tg b≠0→tg' b=tg b)∧(∀b,Q b→tg' b=2*s.fr.length+6)∧(∀b,v'.ownBlock=some b→tg' b=5)∧∀b,tg' b≠0→(Own S w w1 b∨Q b)∧b<w1.heap.size:=by
  refine⟨fun b=>if tg b≠0 then tg b else if Q b then 2*s.fr.length+6 else if v'.ownBlock=some b then 5 else 0,fun b hb=>if_pos hb,fun b hb=> ?_,fun b hb=> ?_,fun b hb=> ?_⟩
  · have:¬tg b≠0:=fun h1=>(hQ b hb).1 (q.own b h1).1
    show(if _ then _ else _)=_
    rw[if_neg this,if_pos hb]
  · rcases hv with e|e
    · rw[e] at hb
      have:=hv5 b hb
      show(if _ then _ else _)=_
      rw[if_pos (by omega)];exact this
    · have hbw:b=w.heap.size:=by rw[e] at hb;injection hb with hb;exact hb.symm
      have h0:¬tg b≠0:=fun h1=>by have:=(q.own b h1).2;omega
      have hq:¬Q b:=fun h1=>by have:=(hQ b h1).2;omega
      show(if _ then _ else _)=_
      rw[if_neg h0,if_neg hq,if_pos hb]
  · by_cases h1:tg b≠0
    · exact⟨.inl (.inl (q.own b h1).1),qBN (q.own b h1).2 hg.size⟩
    · by_cases h2:Q b
      · exact⟨.inr h2,qBN (hQ b h2).2 hg.size⟩
      · have hb:(if tg b≠0 then tg b else if Q b then 2*s.fr.length+6 else if v'.ownBlock=some b then 5 else 0)≠0:=hb
        rw[if_neg h1,if_neg h2] at hb;split at hb
        · rename_i e
          have hl:=(ho.lt b e).2;refine⟨.inl ?_,hl⟩;rcases hv with e'|e'
          · exact .inl (q.own b (by rw[e'] at e;have:=hv5 b e;omega)).1
          · exact .inr ⟨by rw[e'] at e;injection e with e;omega,hl⟩
        · exact absurd rfl hb
 have hl4:=q.fr.len4;have t5:∀b,v'.ownBlock=some b→tg' b=5:=t3.1;have t3:=t3.2;have hF:Fr tg' w1 v' (css++[cs]) (s.fr++[f]):=by
  refine⟨by simp[q.fr.1],by rw[List.length_append];simpa using ho,t5,fun j x ds e1 e2=> ?_⟩;rcases Nat.lt_or_ge j s.fr.length with hj|hj
  · rw[List.getElem?_append_left hj] at e1
    rw[List.getElem?_append_left (by rw[q.fr.1];exact hj)] at e2;exact(q.fr.2.2.2 j x ds e1 e2).keep (fun b hb=>hk b (by omega) (by omega)) (fun b hb=>hk b (by omega) (by omega)) (fun b hb=>by rw[t1 b (by omega)];exact hb) fun b hb=>by rw[t1 b (by omega)];exact hb
  · rw[List.getElem?_append_right hj] at e1
    rw[List.getElem?_append_right (by rw[q.fr.1];exact hj),q.fr.1] at e2;have e0:j-s.fr.length=0:=by
     rcases Nat.eq_zero_or_pos (j-s.fr.length) with h|h
     · exact h
     · rw[List.getElem?_eq_none qK] at e1
       cases e1
    rw[e0] at e1 e2;simp at e1 e2;subst e1 e2;have ej:j=s.fr.length:=by omega
    subst ej;exact hf.keep hkq (fun b hb=>hb.elim) t2 fun b hb=>hb.elim
 have mi:Mi tg' P.p0 P.p1 P.p2 P.p3 P.p4 (css++[cs]) (fun b=>Own S w w1 b∨Q b) m gm go gh v' (w1.setCell ⟨gm,10,none⟩ v') {s with fr:=s.fr++[f]}:=by
  have base:Mi tg' P.p0 P.p1 P.p2 P.p3 P.p4 (css++[cs]) (fun b=>Own S w w1 b∨Q b) m gm go gh v' (w1.setCell ⟨gm,10,none⟩ v') {s with fr:=s.fr++[f]}:=by
   have hk2:∀b,b≠gm→(w1.setCell ⟨gm,10,none⟩ v').heap[b]? =w1.heap[b]? :=fun b hb=>qBP _ _ _ _ hb;have hng:∀b,tg b≠0→tg b≠1→b≠gm:=fun b h1 h2 e=>h2 (by rw[e];exact q.tgm);have hgF:∀b,5≤tg' b→b≠gm:=fun b h1 e=>by rw[e,t1 gm qr,q.tgm] at h1;omega
   exact⟨fun b hb=>by have:=t3 b hb;simpa[World.setCell] using this,(show Blk w1 gm _ _ from hgm.trans q.blk).set 10 v',by rw[t1 gm qr];exact q.tgm,
    modL.wide (modL.keep q.md fun b hb=>(hk2 b (hng b (by omega) (by omega))).trans (hk b (by omega) (by omega))) fun b hb=>by rw[t1 b (by omega)];exact hb,
    (q.hp.keep (fun b _ hb=>(hk2 b (hng b (by omega) (by omega))).trans (hk b (by omega) (by omega))) fun b hb=>(q.own b (by omega)).2).wide fun b hb=>by rw[t1 b (by omega)];exact hb,
    (q.tb.keep fun b _ hb=>(hk2 b (hng b (by omega) (by omega))).trans (hk b (by omega) (by omega))).wide fun b _ hb=>by rw[t1 b (by omega)];exact hb,
    hF.keep (fun b hb=>hk2 b (hgF b hb)) fun b _=>rfl,q.ok⟩
  exact base
 refine⟨(qBd (a:=⟨gm,10,none⟩) hgm).trans (q.blk.cell 10),(World.frozen?_of_block (a:=⟨gm,10,none⟩) hgm).trans (q.blk.frozen 10),⟨tg',css++[cs],mi⟩,hg.os,hg.tape,hg.output,by simpa[World.setCell] using hg.size,fun b hb hn=> ?_⟩;rw[qBP _ _ _ _ fun(e:b=gm)=>hn (by rw[e];exact(q.own gm qr).1)];exact hg.block b hb fun e=>hn (q.own b (by have:=hv5 b e.symm;omega)).1
theorem qIB (w:World):(Instr.build 65 #[]).run Tryz.prog w= .ok (.agg #[.int .i64 0,.int .i64 0,.int .i64 0]) w:=by kernel_rfl
theorem Mf.mc {K:Mch} (h:Mf K S w s f):Mc S K.m K.gm K.go K.gh K.P (.slice (some ⟨K.gF,0,none⟩) (K.F.length+1) K.c) w {s with fr:=K.F++[f]}:=h
theorem Mc.func (h:Mc S m gm go gh P v w s) {fn:Fn} (hj:m.funcs[j]? =some fn):
 ∃A c B0 c0 B1 c1 B2 c2,w.cell? ⟨gm,6,none⟩=some (.slice (some A) m.funcs.length c)∧j<m.funcs.length∧A.block<w.heap.size∧w.cell? (A.add (j*5))=some (.slice B0 fn.args.length c0)∧w.cell? ⟨(A.add (j*5)).block,(A.add (j*5)).off+1,none⟩=some (.int .i64 fn.ret.1)∧w.cell? ⟨(A.add (j*5)).block,(A.add (j*5)).off+2,none⟩=some (.int .i64 fn.ret.2)∧
  w.cell? ⟨(A.add (j*5)).block,(A.add (j*5)).off+3,none⟩=some (.slice B1 fn.locs.length c1)∧w.cell? ⟨(A.add (j*5)).block,(A.add (j*5)).off+4,none⟩=some (.slice B2 fn.code.length c2)∧Sq insL (·<w.heap.size) w B2 fn.code:=by
 obtain⟨-,-,-,-,-,-,-,-,-,-,⟨v0,v1,v2,v3,v4,e,r0,⟨A,c,e1,-,-,hs⟩,-⟩,c6,-⟩:=h.cells;simp only[List.cons.injEq,and_true] at e e1;obtain⟨a,cs,rfl,ha,hc,⟨u0,u1,u2,rfl,-,-,⟨B0,d0,f0,-⟩,⟨B1,d1,f1,-⟩,⟨B2,d2,f2,-,-,hq⟩⟩⟩:=hs.at hj;simp only[List.cons.injEq,and_true] at f0 f1 f2;subst f0 f1 f2;have q0:=hc 0 _ rfl;have q1:=hc 1 _ rfl;have q2:=hc 2 _ rfl;have q3:=hc 3 _ rfl;have q4:=hc 4 _ rfl;change w.cell? (a.add (j*5+1))=_ at q1;change w.cell? (a.add (j*5+2))=_ at q2;change w.cell? (a.add (j*5+3))=_ at q3;change w.cell? (a.add (j*5+4))=_ at q4;rw[qBT a (j*5) 1 (by omega)] at q1;rw[qBT a (j*5) 2 (by omega)] at q2;rw[qBT a (j*5) 3 (by omega)] at q3;rw[qBT a (j*5) 4 (by omega)] at q4;exact⟨a,c,B0,d0,B1,d1,B2,d2,by rw[c6,e.2.1,e1],(qBM.1 hj).1,ha.2,q0,q1,q2,q3,q4,hq.wide fun b hb=>hb.2⟩
theorem qDP (K:Mch) (w:World) (h:Mf K S w s f) (h8:K.F.length≤1000):
 Calls Tryz.prog 41 #[.pointer (some ⟨K.gm,0,none⟩)] w fun e w'=>e= .returned (.pointer (some ⟨K.gF,K.F.length*4,none⟩))∧Mf K S w' s f∧Below w.heap.size w w':=by
 have c10:=h.mc.cells.2.2.2.2.2.2.2.2.1;have HM:=qBK h;have haa:=add_zero K.gF (K.F.length*4);clear h;generalize K.F.length=n at*;have hw:IntKind.i64.wrap ((n:Int)+1-1)=(n:Int):=by rw[qBi];omega
 have hw2:(n:Int)+1-1=(n:Int):=by omega
 have hw3:IntKind.i64.wrap (n:Int)=(n:Int):=by rw[qBi];omega
 have b0:(0:Int)≤(n:Int):=by omega
 have b1:(n:Int)<(n:Int)+1:=by omega
 go_enter Tryz.func41,Tryz.ntmps41
 go_wp2_with fail
 go_quiet (fail)
 go_wp2_with fail
 go_ret;exact⟨rfl,HM.out.below (qBj _ _),qBj _ _⟩
theorem qNW (w:World):Calls Tryz.prog 40 #[.pointer none] w fun e w'=>e= .returned (.tuple #[.agg #[.int .i64 0,.int .i64 0,.int .i64 0],.bool false])∧Below w.heap.size w w':=by
 have hb:=qIB
 go_enter Tryz.func40,Tryz.ntmps40
 go_wp2_with fail
 refine bodyPost_ret (v:= .tuple #[.agg #[.int .i64 0,.int .i64 0,.int .i64 0],.bool false]) (by simp[results,Tryz.results40,go_sem]) rfl ⟨rfl,?_⟩;exact(qBO _ _).alloc (qBL _) _
theorem qNX (w:World) (h:Mc S m gm go gh P v w s) (hs:s.fr=[]):Calls Tryz.prog 40 #[.pointer (some ⟨gm,0,none⟩)] w fun e w'=>e= .returned (.tuple #[.agg #[.int .i64 0,.int .i64 0,.int .i64 0],.bool false])∧Below w.heap.size w w':=by
 obtain⟨hlt,-,-,-,-,-,-,-,c10,⟨A,c,rfl,-⟩,-⟩:=h.cells;rw[hs] at c10;have c10:w.cell? ⟨gm,10,none⟩=some (.slice A 0 c):=c10;have d10:=fun ob=>((qBO _ w).alloc (qBL _) ob).cell (p:=⟨gm,10,none⟩) hlt |>.trans c10;have hb:=qIB;clear h
 go_enter Tryz.func40,Tryz.ntmps40
 go_wp2_with fail
 refine bodyPost_ret (v:= .tuple #[.agg #[.int .i64 0,.int .i64 0,.int .i64 0],.bool false]) (by simp[results,Tryz.results40,go_sem]) rfl ⟨rfl,?_⟩;exact(qBO _ _).alloc (qBL _) _
theorem qNY (K:Mch) {p:Nat} {fn:Fn} {i:Ins} (w:World) (h:Mf K S w s f) (h8:K.F.length≤1000) (hj:f.fn=(j:Int)) (hp:f.pc=(p:Int)) (hfn:K.m.funcs[j]? =some fn) (hi:fn.code[p]? =some i):
 Calls Tryz.prog 40 #[.pointer (some ⟨K.gm,0,none⟩)] w fun e w'=>e= .returned (.tuple #[.agg #[.int .i64 i.1,.int .i64 i.2.1,.int .i64 i.2.2],.bool true])∧Mf K S w' s f∧Below w.heap.size w w':=by
 have hcs:=h.mc.cells;have hlt:=hcs.1;have c10:=hcs.2.2.2.2.2.2.2.2.1;obtain⟨hgf,-,p0,-,-,f0⟩:=h.loc0;obtain⟨A,c,B0,c0,B1,c1,B2,c2,q6,hjl,hA,-,-,-,-,q4,hq⟩:=h.mc.func hfn;obtain⟨b,ic,rfl,hb,hic,rfl,-⟩:=hq.at hi;have i0:=hic 0 _ rfl;have i1:=hic 1 _ rfl;have i2:=hic 2 _ rfl;change w.cell? (b.add (p*3))=_ at i0;change w.cell? (b.add (p*3+1))=_ at i1;change w.cell? (b.add (p*3+2))=_ at i2;rw[qBT b (p*3) 1 (by omega)] at i1;rw[qBT b (p*3) 2 (by omega)] at i2;have hpl:=(qBM.1 hi).1;rw[hj] at f0;rw[hp] at p0;have HSS:Hid (∀V,Below w.heap.size w V→V.cell? ⟨K.gm,6,none⟩=some (.slice (some A) K.m.funcs.length c)∧V.cell? ⟨K.gF,K.F.length*4,none⟩=some (.int .i64 (j:Int))∧V.cell? ⟨K.gF,K.F.length*4+1,none⟩=some (.int .i64 (p:Int))∧V.cell? ⟨(A.add (j*5)).block,(A.add (j*5)).off+4,none⟩=some (.slice (some b) fn.code.length c2)∧V.cell? (b.add (p*3))=some (.int .i64 i.1)∧V.cell? ⟨(b.add (p*3)).block,(b.add (p*3)).off+1,none⟩=some (.int .i64 i.2.1)∧V.cell? ⟨(b.add (p*3)).block,(b.add (p*3)).off+2,none⟩=some (.int .i64 i.2.2)):=fun V hV=>
  ⟨(hV.cell (p:=⟨K.gm,6,none⟩) hlt).trans q6,(hV.cell (p:=⟨K.gF,_,none⟩) hgf).trans f0,(hV.cell (p:=⟨K.gF,_,none⟩) hgf).trans p0,(hV.cell (p:=⟨(A.add (j*5)).block,_,none⟩) (by rw[qBn];exact hA)).trans q4,(hV.cell (p:=b.add (p*3)) zk).trans i0,(hV.cell (p:=⟨(b.add (p*3)).block,_,none⟩) zk).trans i1,(hV.cell (p:=⟨(b.add (p*3)).block,_,none⟩) zk).trans i2⟩
 have d10:=fun ob=>((qBO _ w).alloc (qBL _) ob).cell (p:=⟨K.gm,10,none⟩) hlt |>.trans c10;have HM:=qBK h;have HLA:=qBK (fun V (hV:Mf K S V s f)=>qDP K V hV h8);have hjl':(j:Int)<(K.m.funcs.length:Int):=by omega
 have hpl':(p:Int)<(fn.code.length:Int):=by omega
 have hne:((((K.F.length:Int)+1)==0):Bool)=false:=by simp;omega
 clear h hcs hq hic hfn hi q6 f0 p0 q4 i0 i1 i2 hb hA
 go_enter Tryz.func40,Tryz.ntmps40
 go_upto_region 4 with(first
  |(go_at_call 41
    refine(HLA.out _ (HM.out.below ((qBO _ _).alloc (qBL _) _))).mono ?_;rintro e w1 ⟨rfl,hm1,hb1⟩;have HM1:=qBK hm1;have HB1:Hid (Below w.heap.size w w1):=((qBO _ _).alloc (qBL _) _).trans (hb1.mono (by simp));have hk:=qBf (qBl (v:=w) (c:= #[.int .i64 0,.int .i64 0,.int .i64 0]) (t:=65) rfl) hb1 (by simp);have x0:=hk.cell 0;have x1:=hk.cell 1;have x2:=hk.cell 2;have z0:=hk.frozen 0;have z1:=hk.frozen 1;have z2:=hk.frozen 2;clear hm1 hb1 hk))
 refine qA2 ?_;intro HSN
 go_region_held3 (fun V=>V.cell? ⟨K.gm,6,none⟩=some (.slice (some A) K.m.funcs.length c)∧V.cell? ⟨K.gF,K.F.length*4,none⟩=some (.int .i64 (j:Int))∧V.cell? ⟨K.gF,K.F.length*4+1,none⟩=some (.int .i64 (p:Int))∧V.cell? ⟨(A.add (j*5)).block,(A.add (j*5)).off+4,none⟩=some (.slice (some b) fn.code.length c2)∧V.cell? (b.add (p*3))=some (.int .i64 i.1)∧V.cell? ⟨(b.add (p*3)).block,(b.add (p*3)).off+1,none⟩=some (.int .i64 i.2.1)∧V.cell? ⟨(b.add (p*3)).block,(b.add (p*3)).off+2,none⟩=some (.int .i64 i.2.2))
  (first
  |exact HSS.out _ HB1.out.drew
  |exact HSS.out _ (HSN.out _ _ _ (HSN.out _ _ _ (HSN.out _ _ _ HB1.out.drew))))
  (first
  |fail)
 all_goals(go_wp2_with fail)
 all_goals refine bodyPost_ret (v:= .tuple #[.agg #[.int .i64 i.1,.int .i64 i.2.1,.int .i64 i.2.2],.bool true]) (by simp[results,Tryz.results40,go_sem,x0,x1,x2]) rfl ⟨rfl,?_⟩
 all_goals exact⟨HM.out.below (HSN.out _ _ _ (HSN.out _ _ _ (HSN.out _ _ _ HB1.out.drew))),HSN.out _ _ _ (HSN.out _ _ _ (HSN.out _ _ _ HB1.out.drew))⟩
theorem qLO {α:Type} (F:List α) (f:α):(F++[f]).take F.length=F:=by simp
theorem qNA (K:Mch) {x:Nat} (w:World) (h:Mf K S w s ⟨fn,pc,l,st++[x]⟩) (hF:K.F=[]) (hx:x<B64) (hst:st.length≤900):
 Calls Tryz.prog 79 #[.pointer (some ⟨K.gm,0,none⟩),.pointer (some ⟨K.gF,K.F.length*4,none⟩)] w fun e w'=>e= .returned (.int .i64 1)∧Mc S K.m K.gm K.go K.gh K.P (.slice (some ⟨K.gF,0,none⟩) 0 K.c) w' {s with fr:=[],val:=x}∧Trn S w w':=by
 have HC:=qBK (qH4 K w h (by omega));have HP:Hid (∀V,Mf K S V s ⟨fn,pc,l,st⟩→Trn S w V→V.cell? ⟨K.gm,10,none⟩=some (.slice (some ⟨K.gF,0,none⟩) 1 K.c)∧V.frozen? ⟨K.gm,10,none⟩=false∧V.frozen? ⟨K.gm,4,none⟩=false∧V.cell? ⟨K.gm,4,none⟩=some (.int .u64 (s.val:Int))∧1≤K.c∧
  Mc S K.m K.gm K.go K.gh K.P (.slice (some ⟨K.gF,0,none⟩) 0 K.c) ((V.setCell ⟨K.gm,10,none⟩ (.slice (some ⟨K.gF,0,none⟩) 0 K.c)).setCell ⟨K.gm,4,none⟩ (.int .u64 (x:Int))) {s with fr:=[],val:=x}∧Trn S w ((V.setCell ⟨K.gm,10,none⟩ (.slice (some ⟨K.gF,0,none⟩) 0 K.c)).setCell ⟨K.gm,4,none⟩ (.int .u64 (x:Int)))):=fun V hV ht=>by
  obtain⟨q1,q2,q3,-,-,-,-,q4,q5,⟨A,c,e,hc,-⟩,-⟩:=hV.mc.cells;have hp:=(hV.mc.pop 0 (qBU _)).value x hx;rw[hF] at q5 e;injection e with e1 e2 e3;refine⟨q5,q3 10,q3 4,q4,?_,hp,(ht.set q2 _).set q2 _⟩;rw[hF] at hc;rw[e3];exact hc
 clear h;rw[hF];have hw:IntKind.i64.wrap ((1:Int)-1)=0:=by decide
 go_enter Tryz.func79,Tryz.ntmps79
 go_wp2_with (first
  |(go_at_call 139
    rw[hF] at HC;refine HC.out.mono ?_;rintro e w1 ⟨rfl,hm1,ht1,hs1⟩;obtain⟨c10,f10,f4,c4,hc,hm,ht⟩:=HP.out w1 hm1 ht1;obtain⟨d10,e10,e4,d4,-,hmd,htd⟩:=HP.out w1.drew (hm1.below (qBj w1 1)) (ht1.then (qBj w1 1));have HM:=qBK (And.intro hm ht);have HMD:=qBK (And.intro hmd htd);clear hm1 ht1 hs1 hm ht hmd htd))
 go_region
 all_goals(go_wp2_with fail)
 all_goals go_ret
 all_goals first|exact⟨rfl,HM.out⟩|exact⟨rfl,HMD.out⟩
theorem qM9 (K:Mch) {x:Nat} {F0:List Frm} {g:Frm} (w:World) (h:Mf K S w s ⟨fn,pc,l,st++[x]⟩) (hF:K.F=F0++[g]) (hx:x<B64) (hst:st.length≤900) (hg:g.stk.length≤900) (h8:F0.length≤900):
 Calls Tryz.prog 79 #[.pointer (some ⟨K.gm,0,none⟩),.pointer (some ⟨K.gF,K.F.length*4,none⟩)] w fun e w'=>e= .returned (.int .i64 0)∧Mf {K with F:=F0} (Own S w w') w' s {g with stk:=g.stk++[x]}∧Trn S w w':=by
 have HC:=qBK (qH4 K w h (by omega));have hl:K.F.length=F0.length+1:=by rw[hF];simp
 have HP:Hid (∀V,Mf K S V s ⟨fn,pc,l,st⟩→Trn S w V→V.cell? ⟨K.gm,10,none⟩=some (.slice (some ⟨K.gF,0,none⟩) (F0.length+2) K.c)∧V.frozen? ⟨K.gm,10,none⟩=false∧F0.length+2≤K.c∧
  Mf {K with F:=F0} S (V.setCell ⟨K.gm,10,none⟩ (.slice (some ⟨K.gF,0,none⟩) (F0.length+1) K.c)) s g∧Trn S w (V.setCell ⟨K.gm,10,none⟩ (.slice (some ⟨K.gF,0,none⟩) (F0.length+1) K.c))):=fun V hV ht=>by
  obtain⟨q1,q2,q3,-,-,-,-,q4,q5,⟨A,c,e,hc,-⟩,-⟩:=hV.mc.cells;have hp:=hV.mc.pop K.F.length (by simp);have e4:(K.F++[(⟨fn,pc,l,st⟩:Frm)]).take K.F.length=K.F:=qLO _ _;rw[hl] at q5 e;injection e with e1 e2 e3;refine⟨q5,q3 10,?_,?_,(ht.set q2 _)⟩
  · rw[List.length_append,hl] at hc
    rw[e3];exact hc
  · rw[e4,hF,List.length_append] at hp
    exact hp
 have HLA:Hid (∀V,Mf {K with F:=F0} S V s g→Calls Tryz.prog 41 #[.pointer (some ⟨K.gm,0,none⟩)] V fun e w'=>e= .returned (.pointer (some ⟨K.gF,F0.length*4,none⟩))∧Mf {K with F:=F0} S w' s g∧Below V.heap.size V w'):=fun V hV=>qDP {K with F:=F0} V hV (by show F0.length≤_;omega);have HPU:Hid (∀V,Mf {K with F:=F0} S V s g→Calls Tryz.prog 140 #[.pointer (some ⟨K.gF,F0.length*4,none⟩),.slice (some ⟨V.heap.size,0,none⟩) 1 1] (V.alloc (.cells #[.int .u64 (x:Int)] 32)) fun e w'=>e= .returned (.tuple #[])∧Mf {K with F:=F0} (Own S V w') w' s {g with stk:=g.stk++[x]}∧Trn S V w'):=fun V hV=>by
  have hb:=(qBO V.heap.size V).alloc (qBL _) (.cells #[.int .u64 (x:Int)] 32);refine(qKs {K with F:=F0} (some ⟨V.heap.size,0,none⟩) 1 1 _ (hV.below hb) (qMn (ys:=[x]) (qBl rfl) (by simpa using hx)) rfl (by omega)).mono ?_;rintro e w' ⟨rfl,q⟩;exact⟨rfl,Mf.then hb q⟩
 clear h;rw[hl];rw[hl] at HC;have n1:((F0.length:Int)+1+1-1)=(F0.length:Int)+1:=by omega
 have n2:IntKind.i64.wrap ((F0.length:Int)+1)=(F0.length:Int)+1:=by rw[qBi];omega
 have n3:((F0.length:Int)+2-1)=(F0.length:Int)+1:=by omega
 have n4:(((F0.length:Int)+1)==0)=false:=by simp;omega
 have n5:((F0.length:Int)+1).toNat=F0.length+1:=by omega
 have n6:(0:Int)≤(F0.length:Int)+1:=by omega
 go_enter Tryz.func79,Tryz.ntmps79
 go_wp2_with (first
  |(go_at_call 139
    refine HC.out.mono ?_;rintro e w1 ⟨rfl,hm1,ht1,hs1⟩;obtain⟨c10,f10,hc,hm,ht⟩:=HP.out w1 hm1 ht1;have HM:=qBK hm;have HT:=qBK ht;have hc':(F0.length:Int)+1≤(K.c:Int):=by omega
    clear hm1 ht1 hs1 hm ht))
 go_region
 all_goals
  go_wp2_with (first
  |(go_at_call 41
    refine(HLA.out _ (HM.out.below (qBj _ 1))).mono ?_;rintro e w2 ⟨rfl,hm2,hb2⟩;have HM2:=qBK hm2;have HT2:=qBK (HT.out.then ((qBj _ 1).trans hb2));clear hm2 hb2)
  |(go_at_call 140
    refine(HPU.out _ HM2.out).mono ?_;rintro e w3 ⟨rfl,hm3,ht3⟩;have HM3:=qBK (Mf.next HT2.out ⟨hm3,ht3⟩);clear hm3 ht3))
  go_ret;exact⟨rfl,HM3.out⟩
theorem run_frm (a:Int) (A:Option Addr) (n c:Nat) (w:World):(Instr.build 80 #[(0,.int .i64 a),(2,.slice A n c)]).run Tryz.prog w= .ok (.agg #[.int .i64 a,.int .i64 0,.slice A n c,.slice none 0 0]) w:=by kernel_rfl
theorem qOL:(Tryz.prog.info? 80).map (fun i=>(i.zero,i.size,i.bytes))=some (some (.agg #[.int .i64 0,.int .i64 0,.slice none 0 0,.slice none 0 0]),4,64):=by kernel_rfl
theorem qMT (K:Mch) (n:Int) (w:World) (h:Mf K S w s f) (h8:7≤K.F.length) (h9:K.F.length≤1000):
 Calls Tryz.prog 78 #[.pointer (some ⟨K.gm,0,none⟩),.pointer (some ⟨K.gF,K.F.length*4,none⟩),.int .i64 n] w fun e w'=>e= .returned (.int .i64 6)∧w=w':=by
 have c10:=h.mc.cells.2.2.2.2.2.2.2.2.1;clear h;generalize K.F.length=k at*;have hd:(8:Int)≤(k:Int)+1:=by omega
 go_enter Tryz.func78,Tryz.ntmps78
 go_wp2
 go_ret;exact⟨rfl,rfl⟩
theorem qOe (K:Mch) {f2:Frm} {N k:Nat} {w2:World} (hm:Mf K S w2 s f) (hS:∀b,S b→b<N) (hk:Blk w2 (N+1) 32 (Ns f2.locs).toArray) (hl:f2.locs.length=k) (hk1:k≤1000) (hs:f2.stk=[]) (hv:∀x∈f2.locs,x<B64) (hf:I64 f2.fn) (hp:f2.pc=0):
 ∃css:List (List Value),(w2.alloc (.cells #[.int .i64 f2.fn,.int .i64 0,.slice (some ⟨N+1,0,none⟩) k k,.slice none 0 0] 80)).ownsRow 0 80 4 (.slice (some ⟨K.gF,0,none⟩) (K.F.length+1) K.c) (K.F.length+1) css.flatten∧
  ∀v' w4,w4.ownsRow 0 80 4 v' (K.F.length+1+1) (css.flatten++[.int .i64 f2.fn,.int .i64 0,.slice (some ⟨N+1,0,none⟩) k k,.slice none 0 0])→(w2.alloc (.cells #[.int .i64 f2.fn,.int .i64 0,.slice (some ⟨N+1,0,none⟩) k k,.slice none 0 0] 80)).grownBy w4 (some K.gF)→(v'.ownBlock=some K.gF∨v'.ownBlock=some (w2.heap.size+1))→
   w4.cell? ⟨K.gm,10,none⟩=some (.slice (some ⟨K.gF,0,none⟩) (K.F.length+1) K.c)∧w4.frozen? ⟨K.gm,10,none⟩=false∧∃gF' c',v'= .slice (some ⟨gF',0,none⟩) (K.F.length+1+1) c'∧Mf {K with F:=K.F++[f],gF:=gF',c:=c'} (fun b=>S b∨(N≤b∧b<(w4.setCell ⟨K.gm,10,none⟩ v').heap.size)) (w4.setCell ⟨K.gm,10,none⟩ v') s f2∧Trn S w2 (w4.setCell ⟨K.gm,10,none⟩ v'):=by
 have hlt:=hk.lt;have hb:=(qBO w2.heap.size w2).alloc (qBL _) (.cells #[.int .i64 f2.fn,.int .i64 0,.slice (some ⟨N+1,0,none⟩) k k,.slice none 0 0] 80);have hF1:Frm1 (·=N+1) (fun _=>False) (w2.alloc (.cells #[.int .i64 f2.fn,.int .i64 0,.slice (some ⟨N+1,0,none⟩) k k,.slice none 0 0] 80)) [.int .i64 f2.fn,.int .i64 0,.slice (some ⟨N+1,0,none⟩) k k,.slice none 0 0] f2:=by
  refine⟨_,_,by rw[hp],hf,by rw[hp];exact⟨by decide,by decide⟩,hv,by rw[hs];simp,⟨some ⟨N+1,0,none⟩,k,by rw[qBz,hl],by rw[qBz,hl];exact qBL _,by simp[maxLen];omega,fun _=>⟨N+1,_,rfl,rfl,qBc hk,fun i u hu=>by simpa using hu⟩⟩,by rw[hs];exact World.ownsRow_nil _ _ _ _,fun b e=>by simp[Value.ownBlock] at e⟩
 have hm3:=(hm.below hb).mc;obtain⟨css,h1,h2⟩:=hm3.push (fun b hb'=>by have:=hS b hb';simp;omega) hF1 (fun b (hb':b=N+1)=>⟨fun q=>by have:=hS b q;omega,by simp;omega⟩);have hfl:(K.F++[f]).length=K.F.length+1:=by simp
 change World.ownsRow _ 0 _ 4 _ (K.F++[f]).length css.flatten at h1;rw[hfl] at h1;refine⟨css,h1,fun v' w4 q1 q2 q3=> ?_⟩;obtain⟨gF',c',rfl,-,-⟩:=qCQ q1 (by omega);obtain⟨r1,r2,r3,r4⟩:=h2 _ w4 (by show World.ownsRow _ 0 _ 4 _ ((K.F++[f]).length+1) _;rw[hfl];exact q1) q2 (by
  rcases q3 with e|e
  · exact .inl e
  · exact .inr (by rw[e];simp))
 refine⟨r1,r2,gF',c',rfl,?_,(Trn.of_below hb).trans r4 fun _ _ q=>q⟩;have e:K.F.length+1+1=(K.F++[f]).length+1:=by rw[hfl]
 show Mc _ K.m K.gm K.go K.gh K.P (.slice (some ⟨gF',0,none⟩) ((K.F++[f]).length+1) c') _ {s with fr:=(K.F++[f])++[f2]}
 rw[←e];refine Mc.wide r3 fun b hb1 hb2=> ?_;rcases hb2 with(hb2|hb2)|(hb2:b=N+1)
 · exact .inl hb2
 · exact .inr ⟨by have:=hb2.1;simp at this;omega,hb1⟩
 · exact .inr ⟨by omega,hb1⟩
theorem qOf (K:Mch) {ys:List Nat} (n:Nat) {g:Fn} (w:World) (h:Mf K S w s ⟨fn,pc,l,st++ys⟩) (hg:K.m.funcs[n]? =some g) (hy:ys.length=g.args.length) (hya:∀y∈ys,y<B64) (hga:g.args.length≤100) (hgl:g.locs.length≤100) (hn:n≤1000) (h8:K.F.length<7) (hst:st.length≤900) (hS:∀b,S b→b<w.heap.size):
 Calls Tryz.prog 78 #[.pointer (some ⟨K.gm,0,none⟩),.pointer (some ⟨K.gF,K.F.length*4,none⟩),.int .i64 (n:Int)] w fun e w'=>e= .returned (.int .i64 0)∧(∃gF' c',Mf {K with F:=K.F++[⟨fn,pc,l,st⟩],gF:=gF',c:=c'} (Own S w w') w' s ⟨(n:Int),0,ys++List.replicate g.locs.length 0,[]⟩)∧Trn S w w':=by
 have c10:=h.mc.cells.2.2.2.2.2.2.2.2.1;obtain⟨A,c,B0,c0,B1,c1,B2,c2,q6,hjl,hA,a0,a1,a2,a3,a4,-⟩:=h.mc.func hg;obtain⟨N,hN⟩:∃N,w.heap.size=N:=⟨_,rfl⟩;have HN:=qBK hN;have HM:=qBK h;have HS:=qBK hS;have HC:=qBK (fun V (hV:Mf K S V s ⟨fn,pc,l,st++ys⟩)=>qE1 K g.args.length V hV hy (by omega));have HY:=qBK hy;have HYA:=qBK hya;obtain⟨k,hk⟩:∃k,g.args.length+g.locs.length=k:=⟨_,rfl⟩;have HK:=qBK hk;have hk1:((g.args.length:Int)+(g.locs.length:Int))=(k:Int):=by omega
 have hk2:IntKind.i64.wrap (k:Int)=(k:Int):=by rw[qBi];omega
 have hk3:k≤1000:=by omega
 have M1:=qFd k hk3;have M2:=run_frm;have hjl':(n:Int)<(K.m.funcs.length:Int):=by omega
 have h8':¬(8:Int)≤(K.F.length:Int)+1:=by omega
 clear h hS hg hy hya hk
 go_enter Tryz.func78,Tryz.ntmps78
 go_upto_region 5 with(fail)
 refine qBV fun W hW=> ?_;have hBW:Below N w W:=by rw[hW,←hN];exact((qBO _ _).alloc (qBL _) _).alloc (by simp) _
 have hs:W.heap.size=N+2:=by rw[hW];simp;omega
 have hb0:Blk W N 70 #[.slice B0 g.args.length c0,.int .i64 g.ret.1,.int .i64 g.ret.2,.slice B1 g.locs.length c1,.slice B2 g.code.length c2]:=by rw[hW];exact qBc (qBl hN)
 have hb1:Blk W (N+1) 32 (Ns (List.replicate k 0)).toArray:=by rw[hW,←made_ns];exact qBl qK
 have HMW:Hid (Mf K S W s ⟨fn,pc,l,st++ys⟩):=HM.out.below (by rw[hN];exact hBW);have HBW:=qBK hBW;have HB1:=qBK hb1;have HSZ:=qBK hs;have z0:=hb0.cell 0;clear hW q6 a0 a1 a2 a3 a4 c10 M1 hN hBW hb0 hb1 hs hA HM
 go_wp2_with (first
  |(go_at_call 136
    refine(HC.out _ HMW.out).mono ?_;rintro e w1 ⟨A1,d1,rfl,hd1,hd2,hq1,hm1,ht1,hs1,u,hu⟩;have HM1:=qBK hm1;have HT1:=qBK ht1;have HQ1:=qBK hq1;have HK1:Hid (Blk w1 (N+1) 32 (Ns (List.replicate k 0)).toArray):=by
     have hgf:K.gF<N:=by have:=HS.out _ HMW.out.loc0.2.1;have:=HN.out;omega
     show Blk w1 (N+1) _ _
     rw[hu];exact qG6 HB1.out (by omega)
    clear hm1 ht1 hq1 hu)
  |(refine qGG (o:=⟨some 37,_,_,_,_,_⟩) _ rfl (.tmp 31) (.tmp 36) rfl (N+1) k k A1 g.args.length d1 (List.replicate k 0) ys rfl rfl HK1.out (by simp) HY.out (by have:=HK.out;omega) _ HQ1.out ?_
    intro w2 hk2 ho2;have hm2:Mf K S w2 s ⟨fn,pc,l,st⟩:=Mc.keep HM1.out ho2.size (fun b h1 h2=>ho2.block b h2 fun e=>by injection e with e;have:=HS.out b h1;have:=HN.out;omega) fun b h1 _=>h1;have ht2:Trn S w w2:=⟨ho2.os.trans (HT1.out.os.trans HBW.out.os),ho2.tape.trans (HT1.out.tape.trans HBW.out.tape),ho2.output.trans (HT1.out.output.trans HBW.out.output),by have h1:=HBW.out.size;have h2:=HT1.out.size;have h3:=ho2.size;omega,fun b h1 h2=>(ho2.block b (by have h4:=HBW.out.size;have h5:=HT1.out.size;have:=HN.out;omega) (fun e=>by injection e with e;have:=HN.out;omega)).trans ((HT1.out.block b (by have h4:=HBW.out.size;have:=HN.out;omega) h2).trans (HBW.out.block b (by have:=HN.out;omega)))⟩;have hk3:Blk w2 (N+1) 32 (Ns (ys++List.replicate g.locs.length 0)).toArray:=by
     have e:(List.replicate k 0).drop g.args.length=List.replicate g.locs.length 0:=by rw[List.drop_replicate];congr 1;have:=HK.out;omega
     rwa [e] at hk2
    obtain⟨css,ho3,hend⟩:=qOe (f2:=⟨(n:Int),0,ys++List.replicate g.locs.length 0,[]⟩) (N:=N) (k:=k) K hm2 (fun b hb=>by have:=HS.out b hb;have:=HN.out;omega) hk3 (by have:=HK.out;have:=HY.out;simp;omega) (by omega) rfl (fun x hx=>by
     rcases List.mem_append.1 hx with q|q
     · exact HYA.out x q
     · rw[List.eq_of_mem_replicate q];decide) (show I64 (n:Int) from⟨by omega,by omega⟩) rfl
    have y10:=hm2.mc.cells.2.2.2.2.2.2.2.2.1;have HO3:=qBK ho3;have HEND:=qBK hend;have HT2:=qBK ht2;have HSZ2:Hid (N+2≤w2.heap.size):=by show N+2≤_;have h1:=HT1.out.size;have h2:=ho2.size;have:=HSZ.out;omega
    clear hm2 ht2 hk2 hk3 ho2 ho3 hend)
  |(at_builtin
    refine qFH 4 _ rfl (.tmp 42) (.tmp 46) 29 80 rfl (.agg #[.int .i64 0,.int .i64 0,.slice none 0 0,.slice none 0 0]) 64 Tryz.underlying29 qOL rfl qp qp 0 (.slice (some ⟨K.gF,0,none⟩) (K.F.length+1) K.c) (K.F.length+1) css.flatten rfl HO3.out ⟨w2.heap.size,0,none⟩ 1 rfl [.int .i64 (n:Int),.int .i64 0,.slice (some ⟨N+1,0,none⟩) k k,.slice none 0 0] rfl
     (qCg w2 80 _) (by intro u hu;simp at hu;rcases hu with rfl|rfl|rfl|rfl<;>rfl) (by omega) (qBU _) ?_
    intro v' w4 ho4 hg4 hv4;obtain⟨r1,r2,gF',c',rfl,r3,r4⟩:=HEND.out v' w4 ho4 hg4 (by
     rcases hv4 with e|e
     · exact .inl e
     · exact .inr (by rw[e];simp))
    have HM4:=qBK r3;have HT4:=qBK r4;clear ho4 hg4 hv4 r3 r4))
 go_ret;refine⟨rfl,⟨gF',c',HM4.out.wide fun b hb=>hb.elim .inl fun q=> .inr ⟨by rw[HN.out];exact q.1,q.2⟩⟩,HT2.out.trans HT4.out fun _ _ q=>q⟩
theorem Mf.imp {K:Mch} (h:Mf K S w s f) {p:Imp} (hj:K.m.imps[j]? =some p):
 ∃A c B d,w.cell? ⟨K.gm,7,none⟩=some (.slice (some A) K.m.imps.length c)∧j<K.m.imps.length∧w.cell? (A.add (j*3))=some (.slice B p.args.length d)∧w.cell? ⟨(A.add (j*3)).block,(A.add (j*3)).off+1,none⟩=some (.int .i64 p.ret.1)∧w.cell? ⟨(A.add (j*3)).block,(A.add (j*3)).off+2,none⟩=some (.int .i64 p.ret.2)∧impL.R (fun b=>b<w.heap.size∧b≠K.gF) w [.slice B p.args.length d,.int .i64 p.ret.1,.int .i64 p.ret.2] p∧I64 p.ret.2:=by
 obtain⟨tg,css,q⟩:=h;obtain⟨v0,v1,v2,v3,v4,e,r0,r1,⟨A,c,e1,-,-,hs⟩,-⟩:=q.md;simp only[List.cons.injEq,and_true] at e e1;obtain⟨a,cs,rfl,ha,hc,hR⟩:=hs.at hj;obtain⟨u0,rfl,i1,i2,B,d,f0,b1,b2,b3⟩:=id hR;simp only[List.cons.injEq,and_true] at f0;subst f0;have q0:=hc 0 _ rfl;have q1:=hc 1 _ rfl;have q2:=hc 2 _ rfl;change w.cell? (a.add (j*3+1))=_ at q1;change w.cell? (a.add (j*3+2))=_ at q2;rw[qBT a (j*3) 1 (by omega)] at q1;rw[qBT a (j*3) 2 (by omega)] at q2;have h7:=q.blk.cell 7;rw[e.2.2.1,e1] at h7;exact⟨a,c,B,d,h7,(qBM.1 hj).1,q0,q1,q2,impL.wide hR fun b hb=>⟨(q.own b (by omega)).2,fun e'=>by have:=q.fr.2.2.1 K.gF rfl;rw[←e',hb] at this;omega⟩,i2⟩
theorem qJS (K:Mch) {ys:List Nat} (op:Int) {t:Stt} {v:Nat} {en:Int} (a:Int) (b:Int) (w:World) (h:Mf K S w s ⟨fn,pc,l,st++ys⟩) (ho:op≠4∧op≠5∧op≠6∧op≠7∧op≠22∧op≠23∧op≠24∧op≠30∧op≠33∧op≠37∧op≠41) (hv:v<B64) (hf:∀W,Mf K S W s ⟨fn,pc,l,st++ys⟩→(∀b,S b→b<W.heap.size)→Calls Tryz.prog 144 #[.pointer (some ⟨K.gm,0,none⟩),.pointer (some ⟨K.gF,K.F.length*4,none⟩),.agg #[.int .i64 op,.int .i64 a,.int .i64 b]] W (FD K S W t fn pc l st v en)) (hst:st.length≤900) (hl:Low s) (hS:∀b,S b→b<w.heap.size):
 Calls Tryz.prog 80 #[.pointer (some ⟨K.gm,0,none⟩),.pointer (some ⟨K.gF,K.F.length*4,none⟩),.agg #[.int .i64 op,.int .i64 a,.int .i64 b]] w (WN K S w t ⟨fn,pc,l,if en=0 then st++[v] else st⟩ en):=by
 have HL:=qBK hl;have HF:=qBK (qFv h hS op a b);have e4:(op==4)=false:=by simp;omega
 have e5:(op==5)=false:=by simp;omega
 have e6:(op==6)=false:=by simp;omega
 have e7:(op==7)=false:=by simp;omega
 have e22:(op==22)=false:=by simp;omega
 have e23:(op==23)=false:=by simp;omega
 have e24:(op==24)=false:=by simp;omega
 have e30:(op==30)=false:=by simp;omega
 have e33:(op==33)=false:=by simp;omega
 have e37:(op==37)=false:=by simp;omega
 have e41:(op==41)=false:=by simp;omega
 have HFN:=qBK hf;have HPO:=qBK (fun V T (hV:Mf K T V t ⟨fn,pc,l,st⟩)=>qLa K v en V hV hv (by omega));clear hf;generalize (if en=0 then st++[v] else st)=st' at HPO⊢;have hS0:=qBK hS;clear h hl hS
 go_enter Tryz.func80,Tryz.ntmps80
 go_upto_region 1 with(fail)
 refine qBV fun W hW=> ?_;obtain⟨hm0,he,hc⟩:=HF.out W hW;have HM:=qBK hm0;have HE:=qBK he;have HC:=qBK hc;obtain⟨c0,c1,c2⟩:=hc W (Trn.refl _ _);have g0:=hm0.gm.2.1;have HSW:Hid (∀b,S b→b<W.heap.size):=fun b hb=>by have:=hS0.out b hb;rw[hW];simp;omega
 clear HF hW hm0 he hc
 go_wp2_with (first
  |(go_at_call 144
    refine(HFN.out _ HM.out HSW.out).mono ?_;rintro e w1 ⟨rfl,hm1,ht1⟩;have HM1:=qBK hm1;have HT1:=qBK ht1;clear hm1 ht1)
  |(go_at_call 138
    refine(HPO.out _ _ HM1.out).mono ?_;rintro e w2 ⟨rfl,hm2,ht2⟩;have HM2:=qBK (Mf.grown HT1.out ⟨hm2,ht2⟩);clear hm2 ht2))
 go_ret;exact⟨rfl,HE.out _ _ _ HM2.out⟩
theorem qKJ (en:Int) (w:World) (h:Mc S m gm go gh P v w s) (hq:0≤s.quota∧s.quota≤65536) (hu:0≤s.used∧s.used≤65536) (he:I64 en) (hS:∀b,S b→b<w.heap.size):
 Calls Tryz.prog 43 #[.pointer (some ⟨gm,0,none⟩),.int .i64 en] w fun e w'=>e= .returned (.tuple #[])∧(∃go',Mc (Own S w w') m gm go' gh P v w' {s with fin:=en,hp:=[]})∧Trn S w w':=by
 obtain⟨hlt,hsg,hfz,c0,c1,c2,c3,-⟩:=h.cells;have f3:=hfz 3;have hm:=h.ending en he;have HE:Hid (∀V,Below w.heap.size (w.setCell ⟨gm,3,none⟩ (.int .i64 en)) V→V.cell? ⟨gm,0,none⟩=some (.pointer (some ⟨go,0,none⟩))∧V.cell? ⟨gm,2,none⟩=some (.int .i64 s.quota)∧V.frozen? ⟨gm,0,none⟩=false∧Mc S m gm go gh P v V {s with fin:=en}∧Calls Tryz.prog 76 #[.pointer (some ⟨go,0,none⟩)] V fun e w'=>e= .returned (.int .i64 s.used)∧V=w'):=fun V hV=>by
  have hs:(w.setCell ⟨gm,3,none⟩ (.int .i64 en)).heap.size=w.heap.size:=by simp[World.setCell]
  have hmV:=hm.below (by rw[hs];exact hV);obtain⟨-,-,q1,q2,-,q3,-⟩:=hmV.cells;obtain⟨S2,h1,-,-⟩:=hmV.heap;exact⟨q2,q3,q1 0,hmV,qHz go V h1⟩
 have HN:Hid (∀V,Calls Tryz.prog 60 #[.slice none 0 0,.int .i64 s.quota,.int .i64 s.used] V fun e w'=>∃g,e= .returned (.pointer (some ⟨g,0,none⟩))∧V.heap.size≤g∧IsHp (fun b=>V.heap.size≤b∧b<w'.heap.size) w' g [] s.quota s.used∧Below V.heap.size V w'):=fun V=>by
  have:=qK0 none 0 0 [] s.quota s.used V rfl (Sq.nil _ _ _ _) (by simp) (by omega) ⟨by omega,by omega⟩ ⟨by omega,by omega⟩;rw[show max (-1099511627776) (min s.quota 1099511627776)=s.quota by omega,show max (-1099511627776) (min s.used 1099511627776)=s.used by omega] at this;exact this
 have HS:=qBK hS;have HSG:=qBK hsg;clear h hm hfz hS hsg
 go_enter Tryz.func43,Tryz.ntmps43
 go_upto_region 1 with(fail)
 refine qBV fun W hW=> ?_;have HBW:Hid (Below w.heap.size (w.setCell ⟨gm,3,none⟩ (.int .i64 en)) W):=by show Below _ _ _;rw[hW];exact qBO _ _
 have hsW:W.heap.size=w.heap.size:=by rw[hW];simp[World.setCell]
 have HTW:Hid (Trn S w W):=by show Trn _ _ _;rw[hW];exact(Trn.refl S w).set HSG.out _
 clear hW c0 c1 c2 c3 f3;obtain⟨k0,k2,-⟩:=HE.out W HBW.out;obtain⟨d0,d2,-⟩:=HE.out W.drew HBW.out.drew
 go_region_with (first
  |(go_at_call 76
    refine(HE.out W.drew HBW.out.drew).2.2.2.2.mono ?_;rintro e w1 ⟨rfl,rfl⟩)
  |(go_at_call 60
    refine(HN.out _).mono ?_;rintro e w2 ⟨g,rfl,hg,hh,hb⟩;have hbl:Below w.heap.size (w.setCell ⟨gm,3,none⟩ (.int .i64 en)) w2:=HBW.out.drew.trans (hb.mono (by show w.heap.size≤W.heap.size;omega));obtain⟨x0,x2,xf,xm,-⟩:=HE.out w2 hbl;have HX:=qBK xm;have HH:=qBK hh;have HB:=qBK hb;clear xm hh hb hbl))
 all_goals(go_wp2_with fail)
 all_goals go_end0
 all_goals
  have hsb:=HB.out.size;have hsd:W.drew.heap.size=W.heap.size:=rfl;refine⟨rfl,⟨g,(HX.out.newHeap HH.out fun b (hb:W.drew.heap.size≤b∧b<w2.heap.size)=>⟨fun q=>by have:=HS.out b q;omega,hb.2⟩).wide fun b hb1 hb2=> ?_⟩,(HTW.out.then (Below.drew (qBO _ W)) |>.then (by first|exact HB.out|exact HB.out.drew)).set HSG.out _⟩;rcases hb2 with hb2|hb2
  · exact .inl hb2
  · have hb2:W.drew.heap.size≤b∧b<w2.heap.size:=hb2
    exact .inr ⟨by omega,hb1⟩
theorem qMH (K:Mch) {t:Stt} {f2:Frm} {en:Int} (o a b:Int) (ans:Nat) (w:World) (h:Mf K S w s f) (h8:K.F.length≤900) (ho:o≠27∧o≠25∧o≠26) (hS:∀b,S b→b<w.heap.size)
 (hw:∀W,Mf K S W s f→(∀b,S b→b<W.heap.size)→Calls Tryz.prog 80 #[.pointer (some ⟨K.gm,0,none⟩),.pointer (some ⟨K.gF,K.F.length*4,none⟩),.agg #[.int .i64 o,.int .i64 a,.int .i64 b]] W (WN K S W t f2 en)):
 Calls Tryz.prog 42 #[.pointer (some ⟨K.gm,0,none⟩),.agg #[.int .i64 o,.int .i64 a,.int .i64 b],.int .u64 (ans:Int)] w fun e w'=>e= .returned (.tuple #[.slice none 0 0,.int .i64 en])∧Mf K (Own S w w') w' t f2∧Trn S w w':=by
 have HF:=qBK (qFv h hS o a b);have HLA:=qBK (fun V (hV:Mf K S V s f)=>qDP K V hV (by omega));have HW:=qBK hw;have HS:=qBK hS;have e1:(o==27)=false:=by simp;omega
 have e2:(o==25)=false:=by simp;omega
 have e3:(o==26)=false:=by simp;omega
 clear h hw hS
 go_enter Tryz.func42,Tryz.ntmps42
 go_upto_region 1 with(fail)
 refine qBV fun W hW=> ?_;obtain⟨hm0,he,hc⟩:=HF.out W hW;have HM:=qBK hm0;have HE:=qBK he;have HC:=qBK hc;have HSW:Hid (W.heap.size=w.heap.size+1):=by show W.heap.size=_;rw[hW];simp
 clear HF hW hm0 he hc
 go_wp2_with (first
  |(go_at_call 41
    refine(HLA.out _ HM.out).mono ?_;rintro e w1 ⟨rfl,hm1,hb1⟩;obtain⟨x0,x1,x2⟩:=HC.out w1 (Trn.of_below hb1);have HM1:=qBK hm1;have HB1:=qBK hb1;clear hm1 hb1)
  |(go_at_call 80
    refine(HW.out _ HM1.out (fun b hb=>by have h1:=HS.out b hb;have h2:=HB1.out.size;have h3:=HSW.out;omega)).mono ?_;rintro e w2 ⟨rfl,hm2⟩;have HM2:=qBK (Mf.next (Trn.of_below HB1.out) hm2);clear hm2))
 go_ret2;exact⟨rfl,HE.out _ _ _ HM2.out⟩
theorem qLA (K:Mch) {Q:Int→World→Prop} (a b:Int) (ans:Nat) (w:World) (h:Mf K S w s f) (h8:K.F.length≤900) (hS:∀b,S b→b<w.heap.size)
 (hw:∀W,Below w.heap.size w W→Mf K S W s f→Calls Tryz.prog 78 #[.pointer (some ⟨K.gm,0,none⟩),.pointer (some ⟨K.gF,K.F.length*4,none⟩),.int .i64 a] W fun e w'=>∃en,e= .returned (.int .i64 en)∧Q en w'):
 Calls Tryz.prog 42 #[.pointer (some ⟨K.gm,0,none⟩),.agg #[.int .i64 25,.int .i64 a,.int .i64 b],.int .u64 (ans:Int)] w fun e w'=>∃en,e= .returned (.tuple #[.slice none 0 0,.int .i64 en])∧Q en w':=by
 have HF:=qBK (qFv h hS 25 a b);have HLA:=qBK (fun V (hV:Mf K S V s f)=>qDP K V hV (by omega));have HW:=qBK hw;clear h hw hS
 go_enter Tryz.func42,Tryz.ntmps42
 go_upto_region 1 with(fail)
 refine qBV fun W hW=> ?_;refine qAu ?_;intro hm0 hc HM HC HSW;clear HF hW hm0 hc
 go_wp2_with (first
  |(go_at_call 41
    refine(HLA.out _ HM.out).mono ?_;rintro e w1 ⟨rfl,hm1,hb1⟩;obtain⟨x0,x1,x2⟩:=HC.out w1 (Trn.of_below hb1);have HM1:=qBK hm1;have HB1:Hid (Below w.heap.size w w1):=HSW.out.2.trans (hb1.mono (by have:=HSW.out.1;omega));clear hm1 hb1)
  |(go_at_call 78
    refine(HW.out _ HB1.out HM1.out).mono ?_;rintro e w2 ⟨en,rfl,hq⟩;have HQ:=qBK hq;clear hq))
 go_ret2;exact⟨en,rfl,HQ.out⟩
theorem qOZ (K:Mch) {Q:Int→World→Prop} (a b:Int) (ans:Nat) (w:World) (h:Mf K S w s f) (h8:K.F.length≤900) (hS:∀b,S b→b<w.heap.size)
 (hw:∀W,Below w.heap.size w W→Mf K S W s f→Calls Tryz.prog 79 #[.pointer (some ⟨K.gm,0,none⟩),.pointer (some ⟨K.gF,K.F.length*4,none⟩)] W fun e w'=>∃en,e= .returned (.int .i64 en)∧Q en w'):
 Calls Tryz.prog 42 #[.pointer (some ⟨K.gm,0,none⟩),.agg #[.int .i64 26,.int .i64 a,.int .i64 b],.int .u64 (ans:Int)] w fun e w'=>∃en,e= .returned (.tuple #[.slice none 0 0,.int .i64 en])∧Q en w':=by
 have HF:=qBK (qFv h hS 26 a b);have HLA:=qBK (fun V (hV:Mf K S V s f)=>qDP K V hV (by omega));have HW:=qBK hw;clear h hw hS
 go_enter Tryz.func42,Tryz.ntmps42
 go_upto_region 1 with(fail)
 refine qBV fun W hW=> ?_;refine qAu ?_;intro hm0 hc HM HC HSW;clear HF hW hm0 hc
 go_wp2_with (first
  |(go_at_call 41
    refine(HLA.out _ HM.out).mono ?_;rintro e w1 ⟨rfl,hm1,hb1⟩;obtain⟨x0,x1,x2⟩:=HC.out w1 (Trn.of_below hb1);have HM1:=qBK hm1;have HB1:Hid (Below w.heap.size w w1):=HSW.out.2.trans (hb1.mono (by have:=HSW.out.1;omega));clear hm1 hb1)
  |(go_at_call 79
    refine(HW.out _ HB1.out HM1.out).mono ?_;rintro e w2 ⟨en,rfl,hq⟩;have HQ:=qBK hq;clear hq))
 go_ret2;exact⟨en,rfl,HQ.out⟩
end Go.Proofs.YtgdbhanhmenmfaaGreat
