/-
Gc
-/
import Derived.Test.YtconajaecpgjgaaGreatT10
import Derived.Deep.RegionHeld3
set_option linter.unusedSimpArgs false
set_option linter.unusedVariables false
set_option maxRecDepth 100000
set_option maxHeartbeats 4000000
namespace Go.Proofs.YtconajaecpgjgaaGreat
open Go.RowKit
theorem jU {P:Prop} (h:P:=by
 go_simp
 try with_reducible rfl):P:=h
theorem qD2 {w:World} {b b' ty k n:Nat} {v:Value} {xs:List Value} (h:w.ownsRow b ty k v n xs) (hb:b'≤b):w.ownsRow b' ty k v n xs:=by
 refine⟨h.1,?_⟩
 rcases h.2 with h|⟨g',cap,cur,e,hb2,rest⟩
 · exact .inl h
 · exact .inr ⟨g',cap,cur,e,qBA hb hb2,rest⟩
theorem qCv {w:World} {base ty k:Nat} {v:Value} {n:Nat} {xs:List Value} (h:w.ownsRow base ty k v n xs):∃A c,v= .slice A n c:=by
 rcases h.2 with⟨rfl,rfl⟩|⟨g,cap,cur,rfl,-⟩
 · exact⟨_,_,rfl⟩
 · exact⟨_,_,rfl⟩
theorem qCS {w v:World} {g i:Nat} {u:Value} (h:w.cell? ⟨g,i,none⟩=some u) (hb:Below w.heap.size w v):v.cell? ⟨g,i,none⟩=some u:=(hb.cell (p:=⟨g,i,none⟩) (qAn w _ h)).trans h
theorem qEm {w:World} {g i j:Nat} {u x:Value} (h:w.cell? ⟨g,j,none⟩=some x) (hij:i≠j):(w.setCell ⟨g,i,none⟩ u).cell? ⟨g,j,none⟩=some x:=by
 have hne:(⟨g,i,none⟩:Addr)≠⟨g,j,none⟩:=fun e=>hij (congrArg Addr.off e)
 exact(World.cell?_setCell_other (w:=w) (a:=⟨g,i,none⟩) (b:=⟨g,j,none⟩) (v:=u) (h:=hne)).trans h
theorem qDe {w:World} {g i j:Nat} {u:Value} (h:w.frozen? ⟨g,j,none⟩=false):(w.setCell ⟨g,i,none⟩ u).frozen? ⟨g,j,none⟩=false:=by
 rw[World.frozen?_setCell]
 exact h
structure Cl (N M i j:Nat) (w:World) (v0 v1 v2:Value) (s:Stt):Prop where
 own:Blk w N 36 #[v0,v1,v2,.int .i64 s.quota,.int .i64 s.used,.int .i64 s.fin,.int .u64 (s.val:Int)]
 res:Blk w (N+1) 36 #[.slice none 0 0,.slice none 0 0,.slice none 0 0,.int .i64 0,.int .i64 0,.int .i64 0,.int .u64 0]
 low:N+2≤M∧M≤w.heap.size
 fr:Half frL 67 N (N+2) M i w v0 s.fr
 hp:Half obL 54 N (N+2) M j w v1 s.hp
 hn:w.ownsRow (N+2) 51 3 v2 s.hn.length (Hcs s.hn)∧∀b,v2.ownBlock=some b→b<M
 sep:(∀b,v0.ownBlock=some b→v1.ownBlock≠some b∧v2.ownBlock≠some b)∧∀b,v1.ownBlock=some b→v2.ownBlock≠some b
theorem Cl.below {N M i j:Nat} {w w':World} {v0 v1 v2:Value} {s:Stt} (h:Cl N M i j w v0 v1 v2 s) (hb:Below w.heap.size w w'):Cl N M i j w' v0 v1 v2 s:=by
 have hs:=hb.size
 have hl:=h.low
 have hk:∀v:Value,(∀b,v.ownBlock=some b→b<M)→∀b,v.ownBlock=some b→w'.heap[b]? =w.heap[b]? :=fun v hv b e=>hb.block b (by have:=hv b e;omega)
 refine⟨(hb.block _ (by omega)).trans h.own,(hb.block _ (by omega)).trans h.res,⟨hl.1,by omega⟩,h.fr.keep (by omega) hs (hk _ ?_) fun b q=>hb.block b (by omega),h.hp.keep (by omega) hs (hk _ ?_) fun b q=>hb.block b (by omega),⟨qBd h.hn.1 (hk _ h.hn.2),h.hn.2⟩,h.sep⟩
 · obtain⟨css,-,-,h3,-⟩:=h.fr
   exact h3
 · obtain⟨css,-,-,h3,-⟩:=h.hp
   exact h3
theorem qFR (cs:List Value) (s:Stt) (w:World) (h:stL.R (·<w.heap.size) w cs s) (hz:s.low):
 Calls Tryz.prog 18 #[vAgg cs] w fun e w'=>∃cs',e= .returned (vAgg cs')∧stL.R (New w.heap.size w') w' cs' s∧Below w.heap.size w w':=by
 obtain⟨F,cf,O,co,H,ch,rfl,-,-,-,-,-,-,sF,sO,sH,i1,i2,i3,i4⟩:=qBh h
 obtain⟨z1,z2,z3,z4,z5⟩:=hz
 obtain⟨N,hN⟩:∃N,w.heap.size=N:=⟨_,rfl⟩
 obtain⟨nf,hnf⟩:∃x,s.fr.length=x:=⟨_,rfl⟩
 obtain⟨no,hno⟩:∃x,s.hp.length=x:=⟨_,rfl⟩
 obtain⟨nh,hnh⟩:∃x,s.hn.length=x:=⟨_,rfl⟩
 have HNF:=qAZ hnf
 have HNO:=qAZ hno
 have HNH:=qAZ hnh
 have HI:=qAZ (And.intro i1 (And.intro i2 (And.intro i3 i4)))
 have HOK:=qAZ (sq_ok sH)
 have HZ4:=qAZ z4
 have HZ5:=qAZ z5
 rw[hN] at sF sO sH
 have C0:Hid (∀v,Below N w v→Calls Tryz.prog 44 #[.slice F nf cf] v fun e w'=>∃(A':Option Addr) (c':Nat) (css:List (List Value)),e= .returned (.slice A' nf c')∧css.length=nf∧w'.ownsRow v.heap.size 67 4 (.slice A' nf c') nf css.flatten∧(∀(j:Nat) (x:Frm) (cs:List Value),s.fr[j]? =some x→css[j]? =some cs→frL.R (·<N) w' cs x)∧Below v.heap.size v w'):=fun v hb=>qHx F nf cf s.fr v (·<N) (fun b hb'=>by have:=hb.size;show b<_;have:b<N:=hb';omega) hnf (sF.keep fun b hb'=>hb.block b hb') (by omega)
 have C1:Hid (∀v,Below N w v→Calls Tryz.prog 45 #[.slice O no co] v fun e w'=>∃(A':Option Addr) (c':Nat) (css:List (List Value)),e= .returned (.slice A' no c')∧css.length=no∧w'.ownsRow v.heap.size 54 4 (.slice A' no c') no css.flatten∧(∀(j:Nat) (x:Ob) (cs:List Value),s.hp[j]? =some x→css[j]? =some cs→obL.R (·<N) w' cs x)∧Below v.heap.size v w'):=fun v hb=>qHv O no co s.hp v (·<N) (fun b hb'=>by have:=hb.size;show b<_;have:b<N:=hb';omega) hno (sO.keep fun b hb'=>hb.block b hb') (by omega)
 have C2:Hid (∀v,Below N w v→Calls Tryz.prog 46 #[.slice H nh ch] v fun e w'=>∃(A':Option Addr) (c':Nat) (css:List (List Value)),e= .returned (.slice A' nh c')∧css.length=nh∧w'.ownsRow v.heap.size 51 3 (.slice A' nh c') nh css.flatten∧(∀(j:Nat) (x:Hnd) (cs:List Value),s.hn[j]? =some x→css[j]? =some cs→hdL.R (·<N) w' cs x)∧Below v.heap.size v w'):=fun v hb=>qHw H nh ch s.hn v (·<N) (fun b hb'=>by have:=hb.size;show b<_;have:b<N:=hb';omega) hnh (sH.keep fun b hb'=>hb.block b hb') (by omega)
 show Calls Tryz.prog 18 #[.agg #[.slice F s.fr.length cf,.slice O s.hp.length co,.slice H s.hn.length ch,.int .i64 s.quota,.int .i64 s.used,.int .i64 s.fin,.int .u64 (s.val:Int)]] w _
 rw[hnf,hno,hnh]
 have HN:=qAZ hN
 rw[hN]
 have bnf:nf≤1000:=by omega
 have bno:no≤1000:=by omega
 clear h z1 z2 z3 z4 z5 sF sO sH i1 i2 i3 i4 hnf hno hnh
 go_enter Tryz.func18,Tryz.ntmps18
 go_upto_region 1 with(fail)
 refine qAp fun W hW=> ?_
 have HB0:Hid (Below N w W):=by show Below _ _ _;rw[hW,←hN];exact((qAe _ _).alloc (qAf _) _).alloc (by simp) _
 have HK0:Hid (Blk W N 36 #[.slice F nf cf,.slice O no co,.slice H nh ch,.int .i64 s.quota,.int .i64 s.used,.int .i64 s.fin,.int .u64 (s.val:Int)]):=by show Blk _ _ _ _;rw[hW];exact qAd (qAm hN)
 have HK1:Hid (Blk W (N+1) 36 #[.slice none 0 0,.slice none 0 0,.slice none 0 0,.int .i64 0,.int .i64 0,.int .i64 0,.int .u64 0]):=by show Blk _ _ _ _;rw[hW];exact qAm qf
 have hsW:W.heap.size=N+2:=by rw[hW];simp;omega
 clear hW hN
 have HSS:Hid (∀v,Below W.heap.size W v→v.cell? ⟨N,0,none⟩=some (.slice F nf cf)∧v.cell? ⟨N,1,none⟩=some (.slice O no co)∧v.cell? ⟨N,2,none⟩=some (.slice H nh ch)):=fun v hb=>⟨(qAc HK0.out hb (by omega)).cell 0,(qAc HK0.out hb (by omega)).cell 1,(qAc HK0.out hb (by omega)).cell 2⟩
 have HBN:Hid (∀v,Below W.heap.size W v→Below N w v):=fun v hb=>HB0.out.trans (hb.mono (by omega))
 refine qF8 10 (fun v=>v.cell? ⟨N,0,none⟩=some (.slice F nf cf)∧v.cell? ⟨N,1,none⟩=some (.slice O no co)∧v.cell? ⟨N,2,none⟩=some (.slice H nh ch)) qV (HSS.out _ (qAe _ W).drew) (fun hHeld=> ?_)
 refine qBj (i:=0) (oi:=_) (v:= ?_) rfl qV qV qV jW (fun _=>by assumption) (fun _ _ _ h=>h) (Or.inl ⟨by rfl,?_⟩) ?_
 rotate_left
 · intro w _
   exact jU
 try simp only[Go.Act.put,List.setIfInBounds_toArray,List.set_cons_zero,List.set_cons_succ]
 refine qCd (i:=1) (oi:=_) (v:= ?_) rfl qV qV qV qV qV (fun _ _ _ h=>h) (Or.inl ⟨by rfl,?_⟩) (by assumption) ?_
 rotate_left
 · intro w hSw
   try dsimp only at hSw
   exact jU
 try simp only[Go.Act.put,List.setIfInBounds_toArray,List.set_cons_zero,List.set_cons_succ]
 refine qBj (i:=3) (oi:=_) (v:= ?_) rfl qV qV qV jW (fun _=>by assumption) (fun _ _ _ h=>h) (Or.inl ⟨by rfl,?_⟩) ?_
 rotate_left
 · intro w _
   exact jU
 try simp only[Go.Act.put,List.setIfInBounds_toArray,List.set_cons_zero,List.set_cons_succ]
 refine qCd (i:=4) (oi:=_) (v:= ?_) rfl qV qV qV qV qV (fun _ _ _ h=>h) (Or.inl ⟨by rfl,?_⟩) (by assumption) ?_
 rotate_left
 · intro w hSw
   try dsimp only at hSw
   exact jU
 try simp only[Go.Act.put,List.setIfInBounds_toArray,List.set_cons_zero,List.set_cons_succ]
 refine qBj (i:=6) (oi:=_) (v:= ?_) rfl qV qV qV jW (fun _=>by assumption) (fun _ _ _ h=>h) (Or.inl ⟨by rfl,?_⟩) ?_
 rotate_left
 · intro w _
   exact jU
 try simp only[Go.Act.put,List.setIfInBounds_toArray,List.set_cons_zero,List.set_cons_succ]
 refine qCd (i:=7) (oi:=_) (v:= ?_) rfl qV qV qV qV qV (fun _ _ _ h=>h) (Or.inl ⟨by rfl,?_⟩) (by assumption) ?_
 rotate_left
 · intro w hSw
   try dsimp only at hSw
   exact jU
 try simp only[Go.Act.put,List.setIfInBounds_toArray,List.set_cons_zero,List.set_cons_succ]
 refine qBy (i:=2) (o:=_) qV rfl (fun K hK=> ?_)
 go_simp
 go_at_call 44
 (with_reducible refine(C0.out _ ?_).mono ?_)
 · exact HBN.out _ (qAe _ W).drew
 rintro e w5 ⟨A5,c5,css5,rfl,h5l,h5o,h5R,h5b⟩
 have B5:Below W.heap.size W w5:=(qAe _ W).drew.trans h5b
 try dsimp only
 refine hK.out _ _ (fun _=>HSS.out _ B5) ?_
 clear hK K hHeld
 have hHeld:=HSS.out _ B5
 try simp only[Go.Act.put,List.setIfInBounds_toArray,List.set_cons_zero,List.set_cons_succ]
 refine qBj (i:=9) (oi:=_) (v:= ?_) rfl qV qV qV jW (fun _=>by assumption) (fun _ _ _ h=>h) (Or.inl ⟨by rfl,?_⟩) ?_
 rotate_left
 · intro w _
   exact jU
 try simp only[Go.Act.put,List.setIfInBounds_toArray,List.set_cons_zero,List.set_cons_succ]
 refine qBy (i:=5) (o:=_) qV rfl (fun K hK=> ?_)
 go_simp
 go_at_call 45
 (with_reducible refine(C1.out _ ?_).mono ?_)
 · exact HBN.out _ B5
 rintro e w6 ⟨A6,c6,css6,rfl,h6l,h6o,h6R,h6b⟩
 have B6:Below W.heap.size W w6:=B5.trans (h6b.mono B5.size)
 try dsimp only
 refine hK.out _ _ (fun _=>HSS.out _ B6) ?_
 clear hK K hHeld
 have hHeld:=HSS.out _ B6
 try simp only[Go.Act.put,List.setIfInBounds_toArray,List.set_cons_zero,List.set_cons_succ]
 refine qBy (i:=8) (o:=_) qV rfl (fun K hK=> ?_)
 go_simp
 go_at_call 46
 (with_reducible refine(C2.out _ ?_).mono ?_)
 · exact HBN.out _ B6
 rintro e w7 ⟨A7,c7,css7,rfl,h7l,h7o,h7R,h7b⟩
 have B7:Below W.heap.size W w7:=B6.trans (h7b.mono B6.size)
 try dsimp only
 refine hK.out _ _ (fun _=>HSS.out _ B7) ?_
 clear hK K hHeld
 have hHeld:=HSS.out _ B7
 try simp only[Go.Act.put,List.setIfInBounds_toArray,List.set_cons_zero,List.set_cons_succ]
 have b7:=qAc HK0.out B7 (by omega)
 have q0:=b7.cell 0
 have p0:=b7.frozen 0
 clear hHeld
 refine qBy (i:=10) (o:=_) qV rfl (fun K hK=> ?_)
 go_simp
 refine hK.out _ _ (fun h=>absurd (show true=false from h) zB) ?_
 clear hK K
 try simp only[Go.Act.put,List.setIfInBounds_toArray,List.set_cons_zero,List.set_cons_succ]
 refine qDD (fun X1 hX1=> ?_)
 have b8:Blk X1 N 36 #[.slice A5 nf c5,.slice O no co,.slice H nh ch,.int .i64 s.quota,.int .i64 s.used,.int .i64 s.fin,.int .u64 (s.val:Int)]:=by rw[hX1];exact b7.set 0 _
 have hk1:∀b,b≠N→X1.heap[b]? =w7.heap[b]? :=fun b hb=>by rw[hX1];exact qAi _ _ _ _ hb
 have hs1:X1.heap.size=w7.heap.size:=by rw[hX1];simp[World.setCell]
 have ho1:X1.os=w7.os∧X1.tape=w7.tape∧X1.output=w7.output:=by rw[hX1];exact⟨rfl,rfl,rfl⟩
 clear hX1 q0 p0
 have q1:=b8.cell 1
 have p1:=b8.frozen 1
 refine qBj (i:=11) (oi:=_) (v:= ?_) rfl qV qV qV jW (fun h=>absurd (show true=false from h) jW) (fun _ _ _ h=>h) (Or.inl ⟨by rfl,?_⟩) ?_
 rotate_left
 · intro w _
   exact jU
 try simp only[Go.Act.put,List.setIfInBounds_toArray,List.set_cons_zero,List.set_cons_succ]
 refine qBy (i:=12) (o:=_) qV rfl (fun K hK=> ?_)
 go_simp
 refine hK.out _ _ (fun h=>absurd (show true=false from h) zB) ?_
 clear hK K
 try simp only[Go.Act.put,List.setIfInBounds_toArray,List.set_cons_zero,List.set_cons_succ]
 refine qDD (fun X2 hX2=> ?_)
 have b9:Blk X2 N 36 #[.slice A5 nf c5,.slice A6 no c6,.slice H nh ch,.int .i64 s.quota,.int .i64 s.used,.int .i64 s.fin,.int .u64 (s.val:Int)]:=by rw[hX2];exact b8.set 1 _
 have hk2:∀b,b≠N→X2.heap[b]? =X1.heap[b]? :=fun b hb=>by rw[hX2];exact qAi _ _ _ _ hb
 have hs2:X2.heap.size=X1.heap.size:=by rw[hX2];simp[World.setCell]
 have ho2:X2.os=X1.os∧X2.tape=X1.tape∧X2.output=X1.output:=by rw[hX2];exact⟨rfl,rfl,rfl⟩
 clear hX2 q1 p1
 have q2:=b9.cell 2
 have p2:=b9.frozen 2
 refine qBj (i:=13) (oi:=_) (v:= ?_) rfl qV qV qV jW (fun h=>absurd (show true=false from h) jW) (fun _ _ _ h=>h) (Or.inl ⟨by rfl,?_⟩) ?_
 rotate_left
 · intro w _
   exact jU
 try simp only[Go.Act.put,List.setIfInBounds_toArray,List.set_cons_zero,List.set_cons_succ]
 refine qBy (i:=14) (o:=_) qV rfl (fun K hK=> ?_)
 go_simp
 refine hK.out _ _ (fun h=>absurd (show true=false from h) zB) ?_
 clear hK K
 try simp only[Go.Act.put,List.setIfInBounds_toArray,List.set_cons_zero,List.set_cons_succ]
 refine qDD (fun X3 hX3=> ?_)
 have b10:Blk X3 N 36 #[.slice A5 nf c5,.slice A6 no c6,.slice A7 nh c7,.int .i64 s.quota,.int .i64 s.used,.int .i64 s.fin,.int .u64 (s.val:Int)]:=by rw[hX3];exact b9.set 2 _
 have hk3:∀b,b≠N→X3.heap[b]? =w7.heap[b]? :=fun b hb=>by rw[hX3,qAi _ _ _ _ hb,hk2 b hb,hk1 b hb]
 have hs3:X3.heap.size=w7.heap.size:=by rw[hX3];simp[World.setCell];omega
 have ho3:X3.os=w7.os∧X3.tape=w7.tape∧X3.output=w7.output:=by rw[hX3];exact⟨ho2.1.trans ho1.1,ho2.2.1.trans ho1.2.1,ho2.2.2.trans ho1.2.2⟩
 clear hX3 q2 p2
 obtain⟨M,hM⟩:∃M,w7.heap.size=M:=⟨_,rfl⟩
 have s5:=h5b.size
 have s6:=h6b.size
 have s7:=h7b.size
 have hw:w5.heap.size≤w6.heap.size∧w6.heap.size≤M∧N+2≤w5.heap.size:=by have:W.drew.heap.size=W.heap.size:=rfl;omega
 have HB3:Hid (Below N w X3):=by
  have hb:=HBN.out _ B7
  exact⟨ho3.1.trans hb.os,ho3.2.1.trans hb.tape,ho3.2.2.trans hb.output,by have:=hb.size;omega,fun b hb'=>(hk3 b (by omega)).trans (hb.block b hb')⟩
 have HCl:Hid (Cl N M 0 0 X3 (.slice A5 nf c5) (.slice A6 no c6) (.slice A7 nh c7) s):=by
  have k5:∀b,b≠N→b<w5.heap.size→X3.heap[b]? =w5.heap[b]? :=fun b h1 h2=>(hk3 b h1).trans ((h7b.block b (by omega)).trans (h6b.block b h2))
  have k6:∀b,b≠N→b<w6.heap.size→X3.heap[b]? =w6.heap[b]? :=fun b h1 h2=>(hk3 b h1).trans (h7b.block b h2)
  have e7:css7.flatten=Hcs s.hn:=qFu (by rw[h7l,HNH.out]) h7R
  refine⟨b10,(hk3 _ (by omega)).trans (qAc HK1.out B7 (by omega)),⟨by omega,by omega⟩,⟨css5,by rw[h5l,HNF.out],?_,fun b e=> ?_,fun j x cs e1 e2=> ?_⟩,⟨css6,by rw[h6l,HNO.out],?_,fun b e=> ?_,fun j x cs e1 e2=> ?_⟩,⟨?_,fun b e=> ?_⟩,fun b e=>⟨fun e'=> ?_,fun e'=> ?_⟩,fun b e e'=> ?_⟩
  · rw[HNF.out]
    exact qD2 (qBd h5o fun b e=>k5 b (by have:=(h5o.lt b e).1;have:W.drew.heap.size=W.heap.size:=rfl;omega) (h5o.lt b e).2) (by have:W.drew.heap.size=W.heap.size:=rfl;omega)
  · have:=(h5o.lt b e).2;omega
  · simp only[Nat.not_lt_zero,if_false]
    exact frL.keep (h5R j x cs e1 e2) fun b hb=>k5 b (by omega) (by omega)
  · rw[HNO.out]
    exact qD2 (qBd h6o fun b e=>k6 b (by have:=(h6o.lt b e).1;omega) (h6o.lt b e).2) (by omega)
  · have:=(h6o.lt b e).2;omega
  · simp only[Nat.not_lt_zero,if_false]
    exact obL.keep (h6R j x cs e1 e2) fun b hb=>k6 b (by omega) (by omega)
  · rw[HNH.out,←e7]
    exact qD2 (qBd h7o fun b e=>hk3 b (by have:=(h7o.lt b e).1;omega)) (by omega)
  · have:=(h7o.lt b e).2;omega
  · have:=(h5o.lt b e).2;have:=(h6o.lt b e').1;omega
  · have:=(h5o.lt b e).2;have:=(h7o.lt b e').1;omega
  · have:=(h6o.lt b e).2;have:=(h7o.lt b e').1;omega
 have HKM:Hid (N+2≤M):=HCl.out.low.1
 clear h5l h5o h5R h5b h6l h6o h6R h6b h7l h7o h7R h7b B5 B6 B7 b7 b8 b9 b10 hk1 hk2 hk3 hs1 hs2 hs3 ho1 ho2 ho3 s5 s6 s7 hw hM HK0 HK1 HB0 HSS HBN hsW
 have y0:=HCl.out.own.cell 0
 refine qFP qV ?_ _
 go_simp
 go_wp2_with fail
 clear y0
 go_loopw [22] (fun i wr=>∃k:Nat,k≤nf∧i= .int .i64 (k:Nat)∧Below N w wr∧Cl N M k 0 wr (.slice A5 nf c5) (.slice A6 no c6) (.slice A7 nh c7) s) (fun i _=>nf-(intOf i).toNat)
 case atStart=>exact⟨0,qAs _,rfl,HB3.out,HCl.out⟩
 case round=>
  obtain⟨wf,eW⟩:∃wf,wf=wr:=⟨_,rfl⟩
  subst eW
  obtain⟨k,hk,rfl,hbel,hcl⟩:=hrel
  have HB:=qAZ hbel
  have HC:=qAZ hcl
  clear hbel hcl HB3 HCl
  by_cases hlt:k<nf
  · as_aux_lemma=>
    obtain⟨f,hf⟩:∃f,s.fr[k]? =some f:=⟨s.fr[k]'jx,qAa _⟩
    obtain⟨g,cs,eA,-,hgB,hgM,hgs,hcc,hfz,hR⟩:=Half.at rfl HC.out.fr hf
    subst eA
    simp only[Nat.lt_irrefl,if_false] at hR
    obtain⟨P0,e0,P1,e1,rfl,la1,la2,lb1,lb2,sqa,sqb,j1,j2⟩:=qBq hR
    have hsm:=HZ4.out f (qAk hf)
    have q0:=hcc 0 _ rfl
    have q1:=hcc 1 _ rfl
    have q2:=hcc 2 _ rfl
    have q3:=hcc 3 _ rfl
    rw[Nat.add_zero] at q0
    obtain⟨la,hla⟩:∃x,f.locs.length=x:=⟨_,rfl⟩
    obtain⟨lb,hlb⟩:∃x,f.stk.length=x:=⟨_,rfl⟩
    have HLA:=qAZ hla
    have HLB:=qAZ hlb
    have HF:=qAZ hf
    have HCC:=qAZ hcc
    have CA:Hid (∀v,Below N w v→Below wf.heap.size wf v→Calls Tryz.prog 47 #[.slice P0 la e0] v fun e w'=>∃v',e= .returned v'∧w'.ownsRow v.heap.size 34 1 v' la (Ns f.locs)∧Below v.heap.size v w'):=fun v hb hb2=>qDB P0 la e0 f.locs v hla ((sqa.keep fun b hb'=>hb2.block b (by have:b<N:=hb';omega)).wide fun b hb'=>by have:b<N:=hb';have:=hb.size;have:=HN.out;show b<_;omega) (by have:=hsm.1;omega)
    have CB:Hid (∀v,Below N w v→Below wf.heap.size wf v→Calls Tryz.prog 47 #[.slice P1 lb e1] v fun e w'=>∃v',e= .returned v'∧w'.ownsRow v.heap.size 34 1 v' lb (Ns f.stk)∧Below v.heap.size v w'):=fun v hb hb2=>qDB P1 lb e1 f.stk v hlb ((sqb.keep fun b hb'=>hb2.block b (by have:b<N:=hb';omega)).wide fun b hb'=>by have:b<N:=hb';have:=hb.size;have:=HN.out;show b<_;omega) (by have:=hsm.2;omega)
    have HPR:Hid (∀(w2:World) (va vb:Value) (M0 ba bb:Nat),M0≤ba→M0≤bb→w2.ownsRow ba 34 1 va la (Ns f.locs)→w2.ownsRow bb 34 1 vb lb (Ns f.stk)→frL.R (New M0 w2) w2 [.int .i64 f.fn,.int .i64 f.pc,va,vb] f):=fun w2 va vb M0 ba bb h1 h2 h3 h4=>⟨va,vb,rfl,j1,j2,(qDm h3 h1).words (qGd sqa),(qDm h4 h2).words (qGd sqb)⟩
    rw[hla] at q2
    rw[hlb] at q3
    obtain⟨x1,hx1⟩:∃x,f.fn=x:=⟨_,rfl⟩
    obtain⟨x2,hx2⟩:∃x,f.pc=x:=⟨_,rfl⟩
    rw[hx1] at q0 HCC HPR
    rw[hx2] at q1 HCC HPR
    rw[hla,hlb] at HCC
    have k0:(0:Int)≤(k:Int):=by omega
    have k1:(k:Int)<(nf:Int):=by omega
    have HFZ:=qAZ hfz
    have HGG:=qAZ (And.intro hgB (And.intro hgM hgs))
    have b0:=HC.out.own.cell 0
    clear hR la1 la2 lb1 lb2 sqa sqb j1 j2 hsm hla hlb hx1 hx2 hcc hf hfz
    go_upto_region 5 with(fail)
    refine qAp fun V hV=> ?_
    obtain⟨G,hG⟩:∃G,wf.heap.size=G:=⟨_,rfl⟩
    have hBV:Below wf.heap.size wf V:=by rw[hV];exact(qAe _ _).alloc (qAf _) _
    have hKV:Blk V G 67 #[.int .i64 x1,.int .i64 x2,.slice P0 la e0,.slice P1 lb e1]:=by rw[hV];exact qAm hG
    have hsV:V.heap.size=G+1:=by rw[hV];simp;omega
    have HBV:=qAZ hBV
    have HKV:=qAZ hKV
    have HCV:Hid (Cl N M k 0 V (.slice (some ⟨g,0,none⟩) nf c5) (.slice A6 no c6) (.slice A7 nh c7) s):=HC.out.below hBV
    rw[hG]
    have hgG:g<G:=by omega
    clear hV hBV hKV q0 q1 q2 q3 b0
    have HBN:Hid (∀v,Below V.heap.size V v→Below N w v∧Below wf.heap.size wf v):=fun v hb=>by
     have:=HBV.out.trans (hb.mono (by omega))
     exact⟨HB.out.trans (this.mono (by have:=HC.out.low;omega)),this⟩
    have HSS:Hid (∀v,Below V.heap.size V v→v.cell? ⟨N,0,none⟩=some (.slice (some ⟨g,0,none⟩) nf c5)∧v.cell? ⟨G,2,none⟩=some (.slice P0 la e0)∧v.cell? ⟨G,3,none⟩=some (.slice P1 lb e1)):=fun v hb=>⟨(qAc HCV.out.own hb (by omega)).cell 0,(qAc HKV.out hb (by omega)).cell 2,(qAc HKV.out hb (by omega)).cell 3⟩
    have HSU:Hid (∀(v:World) (i:Nat) (u:Value),(v.cell? ⟨N,0,none⟩=some (.slice (some ⟨g,0,none⟩) nf c5)∧v.cell? ⟨G,2,none⟩=some (.slice P0 la e0)∧v.cell? ⟨G,3,none⟩=some (.slice P1 lb e1))→(fun v:World=>v.cell? ⟨N,0,none⟩=some (.slice (some ⟨g,0,none⟩) nf c5)∧v.cell? ⟨G,2,none⟩=some (.slice P0 la e0)∧v.cell? ⟨G,3,none⟩=some (.slice P1 lb e1)) (v.setCell ⟨g,i,none⟩ u)):=fun v i u h=>by
     have hN2:=HKM.out
     have e:∀(b o:Nat),b≠g→(v.setCell ⟨g,i,none⟩ u).cell? ⟨b,o,none⟩=v.cell? ⟨b,o,none⟩:=fun b o hb=>qAb (a:=⟨b,o,none⟩) (qAi _ _ _ _ hb)
     exact⟨(e _ _ (by omega)).trans h.1,(e _ _ (by omega)).trans h.2.1,(e _ _ (by omega)).trans h.2.2⟩
    go_region_held3 (fun v=>v.cell? ⟨N,0,none⟩=some (.slice (some ⟨g,0,none⟩) nf c5)∧v.cell? ⟨G,2,none⟩=some (.slice P0 la e0)∧v.cell? ⟨G,3,none⟩=some (.slice P1 lb e1))
     (first|exact HSS.out _ (qAe _ V).drew|(have hz:=HB8.out;clear hz;first|(have hz:=HB9.out;clear hz;first|exact HSS.out _ HB9.out|exact HSU.out _ _ _ (HSS.out _ HB9.out)|exact HSU.out _ _ _ (HSU.out _ _ _ (HSS.out _ HB9.out)))|exact HSS.out _ HB8.out))
     (first
     |(go_at_call 47
       (with_reducible refine(CA.out _ ?_ ?_).mono ?_)
       · exact(HBN.out _ (qAe _ V).drew).1
       · exact(HBN.out _ (qAe _ V).drew).2
       rintro e w8 ⟨v8,rfl,ho8,hb8⟩
       obtain⟨A8,c8,rfl⟩:=qCv ho8
       have HB8:Hid (Below V.heap.size V w8):=(qAe _ V).drew.trans hb8
       have HO8:Hid (w8.ownsRow V.heap.size 34 1 (.slice A8 la c8) la (Ns f.locs)):=ho8
       clear ho8 hb8)
     |(go_at_call 47
       (with_reducible refine(CB.out _ ?_ ?_).mono ?_)
       · exact(HBN.out _ HB8.out).1
       · exact(HBN.out _ HB8.out).2
       rintro e w9 ⟨v9,rfl,ho9,hb9⟩
       obtain⟨A9,c9,rfl⟩:=qCv ho9
       have HB9:Hid (Below V.heap.size V w9):=HB8.out.trans (hb9.mono HB8.out.size)
       have HB89:=qAZ hb9
       have HO9:=qAZ ho9
       have q2:w9.cell? ⟨g,k*4+2,none⟩=some (.slice P0 la e0):=qCS (HCC.out 2 _ rfl) (HBN.out _ HB9.out).2
       have q3:∀u,(w9.setCell ⟨g,k*4+2,none⟩ u).cell? ⟨g,k*4+3,none⟩=some (.slice P1 lb e1):=fun u=>qEm (qCS (HCC.out 3 _ rfl) (HBN.out _ HB9.out).2) (by omega)
       have p2:w9.frozen? ⟨g,k*4+2,none⟩=false:=(World.frozen?_of_block (a:=⟨g,k*4+2,none⟩) ((HBN.out _ HB9.out).2.block g (by omega))).trans (HFZ.out _)
       have p3:∀u,(w9.setCell ⟨g,k*4+2,none⟩ u).frozen? ⟨g,k*4+3,none⟩=false:=fun u=>qDe ((World.frozen?_of_block (a:=⟨g,k*4+3,none⟩) ((HBN.out _ HB9.out).2.block g (by omega))).trans (HFZ.out _))
       clear ho9 hb9))
    go_wp2_with fail
    refine⟨⟨k+1,by omega,by simp,?_,?_⟩,by simp[intOf];omega⟩
    · exact(((HBN.out _ HB9.out).1.setCell (by show N≤g;omega) _).setCell (by show N≤g;omega) _)
    · have hc9:=HCV.out.below HB9.out
      have hM:=HC.out.low.2
      have hk9:∀b,b≠g→((w9.setCell ⟨g,k*4+2,none⟩ (.slice A8 la c8)).setCell ⟨g,k*4+3,none⟩ (.slice A9 lb c9)).heap[b]? =w9.heap[b]? :=fun b hb=>(qAi _ _ _ _ hb).trans (qAi _ _ _ _ hb)
      have hs9:((w9.setCell ⟨g,k*4+2,none⟩ (.slice A8 la c8)).setCell ⟨g,k*4+3,none⟩ (.slice A9 lb c9)).heap.size=w9.heap.size:=by simp[World.setCell]
      have hO8:w9.ownsRow V.heap.size 34 1 (.slice A8 la c8) la (Ns f.locs):=qBd HO8.out fun b e=>HB89.out.block b (HO8.out.lt b e).2
      have h9:=HB8.out.size
      refine⟨(hk9 _ (by omega)).trans hc9.own,(hk9 _ (by omega)).trans hc9.res,⟨hc9.low.1,by rw[hs9];exact hc9.low.2⟩,Half.step rfl (by omega) hc9.fr HF.out (cs:=[.int .i64 x1,.int .i64 x2,.slice P0 la e0,.slice P1 lb e1]) ?_ rfl ?_,hc9.hp.keep (by omega) (by rw[hs9];exact qAf _) (fun b e=>hk9 b (fun e'=>by subst e';exact(hc9.sep.1 b rfl).1 e)) (fun b hb=>hk9 b (by omega)),⟨qBd hc9.hn.1 fun b e=>hk9 b (fun e'=>by subst e';exact(hc9.sep.1 b rfl).2 e),hc9.hn.2⟩,hc9.sep⟩
      · exact fun i u hu=>qCS (HCC.out i u hu) (HBN.out _ HB9.out).2
      · exact HPR.out w9 _ _ M V.heap.size w8.heap.size (by omega) (by omega) hO8 HO9.out
  · obtain rfl:nf=k:=by omega
    have HB4:=HB
    have HCl4:=HC
    clear HB HC
    have y1:=HCl4.out.own.cell 1
    go_wp2_with fail
    clear y1
    go_loopw [47] (fun i wr=>∃k:Nat,k≤no∧i= .int .i64 (k:Nat)∧Below N w wr∧Cl N M nf k wr (.slice A5 nf c5) (.slice A6 no c6) (.slice A7 nh c7) s) (fun i _=>no-(intOf i).toNat)
    case atStart=>exact⟨0,qAs _,rfl,HB4.out,HCl4.out⟩
    case round=>
     obtain⟨wf,eW⟩:∃wf,wf=wr:=⟨_,rfl⟩
     subst eW
     obtain⟨k,hk,rfl,hbel,hcl⟩:=hrel
     have HB:=qAZ hbel
     have HC:=qAZ hcl
     clear hbel hcl HB4 HCl4
     by_cases hlt:k<no
     · as_aux_lemma=>
       obtain⟨f,hf⟩:∃f,s.hp[k]? =some f:=⟨s.hp[k]'(by rw[HNO.out];exact hlt),qAa _⟩
       obtain⟨g,cs,eA,-,hgB,hgM,hgs,hcc,hfz,hR⟩:=Half.at rfl HC.out.hp hf
       subst eA
       simp only[Nat.lt_irrefl,if_false] at hR
       obtain⟨P0,e0,P1,e1,rfl,la1,la2,lb1,lb2,sqa,sqb,hb256,j1,j2⟩:=qCB hR
       have hsm:=HZ5.out f (qAk hf)
       have q0:=hcc 0 _ rfl
       have q1:=hcc 1 _ rfl
       have q2:=hcc 2 _ rfl
       have q3:=hcc 3 _ rfl
       rw[Nat.add_zero] at q0
       obtain⟨la,hla⟩:∃x,f.words.length=x:=⟨_,rfl⟩
       obtain⟨lb,hlb⟩:∃x,f.bytes.length=x:=⟨_,rfl⟩
       have HLA:=qAZ hla
       have HLB:=qAZ hlb
       have HF:=qAZ hf
       have HCC:=qAZ hcc
       have CA:Hid (∀v,Below N w v→Below wf.heap.size wf v→Calls Tryz.prog 47 #[.slice P0 la e0] v fun e w'=>∃v',e= .returned v'∧w'.ownsRow v.heap.size 34 1 v' la (Ns f.words)∧Below v.heap.size v w'):=fun v hb hb2=>qDB P0 la e0 f.words v hla ((sqa.keep fun b hb'=>hb2.block b (by have:b<N:=hb';omega)).wide fun b hb'=>by have:b<N:=hb';have:=hb.size;have:=HN.out;show b<_;omega) (by have:=hsm.1;omega)
       have CB:Hid (∀v,Below N w v→Below wf.heap.size wf v→Calls Tryz.prog 48 #[.slice P1 lb e1] v fun e w'=>∃v',e= .returned v'∧w'.ownsRow v.heap.size 5 1 v' lb (Bs f.bytes)∧Below v.heap.size v w'):=fun v hb hb2=>qGq P1 lb e1 f.bytes v hlb ((sqb.keep fun b hb'=>hb2.block b (by have:b<N:=hb';omega)).wide fun b hb'=>by have:b<N:=hb';have:=hb.size;have:=HN.out;show b<_;omega) (by have:=hsm.2;omega)
       have HPR:Hid (∀(w2:World) (va vb:Value) (M0 ba bb:Nat),M0≤ba→M0≤bb→w2.ownsRow ba 34 1 va la (Ns f.words)→w2.ownsRow bb 5 1 vb lb (Bs f.bytes)→obL.R (New M0 w2) w2 [.int .i64 f.kind,.int .i64 f.n,va,vb] f):=fun w2 va vb M0 ba bb h1 h2 h3 h4=>⟨va,vb,rfl,j1,j2,(qDm h3 h1).words (qGd sqa),(qDm h4 h2).bytes hb256⟩
       rw[hla] at q2
       rw[hlb] at q3
       obtain⟨x1,hx1⟩:∃x,f.kind=x:=⟨_,rfl⟩
       obtain⟨x2,hx2⟩:∃x,f.n=x:=⟨_,rfl⟩
       rw[hx1] at q0 HCC HPR
       rw[hx2] at q1 HCC HPR
       rw[hla,hlb] at HCC
       have k0:(0:Int)≤(k:Int):=by omega
       have k1:(k:Int)<(no:Int):=by omega
       have HFZ:=qAZ hfz
       have HGG:=qAZ (And.intro hgB (And.intro hgM hgs))
       have b0:=HC.out.own.cell 1
       clear hR la1 la2 lb1 lb2 sqa sqb hb256 j1 j2 hsm hla hlb hx1 hx2 hcc hf hfz
       go_upto_region 10 with(fail)
       refine qAp fun V hV=> ?_
       obtain⟨G,hG⟩:∃G,wf.heap.size=G:=⟨_,rfl⟩
       have hBV:Below wf.heap.size wf V:=by rw[hV];exact(qAe _ _).alloc (qAf _) _
       have hKV:Blk V G 54 #[.int .i64 x1,.int .i64 x2,.slice P0 la e0,.slice P1 lb e1]:=by rw[hV];exact qAm hG
       have hsV:V.heap.size=G+1:=by rw[hV];simp;omega
       have HBV:=qAZ hBV
       have HKV:=qAZ hKV
       have HCV:Hid (Cl N M nf k V (.slice A5 nf c5) (.slice (some ⟨g,0,none⟩) no c6) (.slice A7 nh c7) s):=HC.out.below hBV
       rw[hG]
       have hgG:g<G:=by omega
       clear hV hBV hKV q0 q1 q2 q3 b0
       have HBN:Hid (∀v,Below V.heap.size V v→Below N w v∧Below wf.heap.size wf v):=fun v hb=>by
        have:=HBV.out.trans (hb.mono (by omega))
        exact⟨HB.out.trans (this.mono (by have:=HC.out.low;omega)),this⟩
       have HSS:Hid (∀v,Below V.heap.size V v→v.cell? ⟨N,1,none⟩=some (.slice (some ⟨g,0,none⟩) no c6)∧v.cell? ⟨G,2,none⟩=some (.slice P0 la e0)∧v.cell? ⟨G,3,none⟩=some (.slice P1 lb e1)):=fun v hb=>⟨(qAc HCV.out.own hb (by omega)).cell 1,(qAc HKV.out hb (by omega)).cell 2,(qAc HKV.out hb (by omega)).cell 3⟩
       have HSU:Hid (∀(v:World) (i:Nat) (u:Value),(v.cell? ⟨N,1,none⟩=some (.slice (some ⟨g,0,none⟩) no c6)∧v.cell? ⟨G,2,none⟩=some (.slice P0 la e0)∧v.cell? ⟨G,3,none⟩=some (.slice P1 lb e1))→(fun v:World=>v.cell? ⟨N,1,none⟩=some (.slice (some ⟨g,0,none⟩) no c6)∧v.cell? ⟨G,2,none⟩=some (.slice P0 la e0)∧v.cell? ⟨G,3,none⟩=some (.slice P1 lb e1)) (v.setCell ⟨g,i,none⟩ u)):=fun v i u h=>by
        have hN2:=HKM.out
        have e:∀(b o:Nat),b≠g→(v.setCell ⟨g,i,none⟩ u).cell? ⟨b,o,none⟩=v.cell? ⟨b,o,none⟩:=fun b o hb=>qAb (a:=⟨b,o,none⟩) (qAi _ _ _ _ hb)
        exact⟨(e _ _ (by omega)).trans h.1,(e _ _ (by omega)).trans h.2.1,(e _ _ (by omega)).trans h.2.2⟩
       go_region_held3 (fun v=>v.cell? ⟨N,1,none⟩=some (.slice (some ⟨g,0,none⟩) no c6)∧v.cell? ⟨G,2,none⟩=some (.slice P0 la e0)∧v.cell? ⟨G,3,none⟩=some (.slice P1 lb e1))
        (first|exact HSS.out _ (qAe _ V).drew|(have hz:=HB8.out;clear hz;first|(have hz:=HB9.out;clear hz;first|exact HSS.out _ HB9.out|exact HSU.out _ _ _ (HSS.out _ HB9.out)|exact HSU.out _ _ _ (HSU.out _ _ _ (HSS.out _ HB9.out)))|exact HSS.out _ HB8.out))
        (first
        |(go_at_call 47
          (with_reducible refine(CA.out _ ?_ ?_).mono ?_)
          · exact(HBN.out _ (qAe _ V).drew).1
          · exact(HBN.out _ (qAe _ V).drew).2
          rintro e w8 ⟨v8,rfl,ho8,hb8⟩
          obtain⟨A8,c8,rfl⟩:=qCv ho8
          have HB8:Hid (Below V.heap.size V w8):=(qAe _ V).drew.trans hb8
          have HO8:Hid (w8.ownsRow V.heap.size 34 1 (.slice A8 la c8) la (Ns f.words)):=ho8
          clear ho8 hb8)
        |(go_at_call 48
          (with_reducible refine(CB.out _ ?_ ?_).mono ?_)
          · exact(HBN.out _ HB8.out).1
          · exact(HBN.out _ HB8.out).2
          rintro e w9 ⟨v9,rfl,ho9,hb9⟩
          obtain⟨A9,c9,rfl⟩:=qCv ho9
          have HB9:Hid (Below V.heap.size V w9):=HB8.out.trans (hb9.mono HB8.out.size)
          have HB89:=qAZ hb9
          have HO9:=qAZ ho9
          have q2:w9.cell? ⟨g,k*4+2,none⟩=some (.slice P0 la e0):=qCS (HCC.out 2 _ rfl) (HBN.out _ HB9.out).2
          have q3:∀u,(w9.setCell ⟨g,k*4+2,none⟩ u).cell? ⟨g,k*4+3,none⟩=some (.slice P1 lb e1):=fun u=>qEm (qCS (HCC.out 3 _ rfl) (HBN.out _ HB9.out).2) (by omega)
          have p2:w9.frozen? ⟨g,k*4+2,none⟩=false:=(World.frozen?_of_block (a:=⟨g,k*4+2,none⟩) ((HBN.out _ HB9.out).2.block g (by omega))).trans (HFZ.out _)
          have p3:∀u,(w9.setCell ⟨g,k*4+2,none⟩ u).frozen? ⟨g,k*4+3,none⟩=false:=fun u=>qDe ((World.frozen?_of_block (a:=⟨g,k*4+3,none⟩) ((HBN.out _ HB9.out).2.block g (by omega))).trans (HFZ.out _))
          clear ho9 hb9))
       go_wp2_with fail
       refine⟨⟨k+1,by omega,by simp,?_,?_⟩,by simp[intOf];omega⟩
       · exact(((HBN.out _ HB9.out).1.setCell (by show N≤g;omega) _).setCell (by show N≤g;omega) _)
       · have hc9:=HCV.out.below HB9.out
         have hM:=HC.out.low.2
         have hk9:∀b,b≠g→((w9.setCell ⟨g,k*4+2,none⟩ (.slice A8 la c8)).setCell ⟨g,k*4+3,none⟩ (.slice A9 lb c9)).heap[b]? =w9.heap[b]? :=fun b hb=>(qAi _ _ _ _ hb).trans (qAi _ _ _ _ hb)
         have hs9:((w9.setCell ⟨g,k*4+2,none⟩ (.slice A8 la c8)).setCell ⟨g,k*4+3,none⟩ (.slice A9 lb c9)).heap.size=w9.heap.size:=by simp[World.setCell]
         have hO8:w9.ownsRow V.heap.size 34 1 (.slice A8 la c8) la (Ns f.words):=qBd HO8.out fun b e=>HB89.out.block b (HO8.out.lt b e).2
         have h9:=HB8.out.size
         refine⟨(hk9 _ (by omega)).trans hc9.own,(hk9 _ (by omega)).trans hc9.res,⟨hc9.low.1,by rw[hs9];exact hc9.low.2⟩,hc9.fr.keep (by omega) (by rw[hs9];exact qAf _) (fun b e=>hk9 b (fun e'=>by subst e';exact(hc9.sep.1 b e).1 rfl)) (fun b hb=>hk9 b (by omega)),Half.step rfl (by omega) hc9.hp HF.out (cs:=[.int .i64 x1,.int .i64 x2,.slice P0 la e0,.slice P1 lb e1]) ?_ rfl ?_,⟨qBd hc9.hn.1 fun b e=>hk9 b (fun e'=>by subst e';exact hc9.sep.2 b rfl e),hc9.hn.2⟩,hc9.sep⟩
         · exact fun i u hu=>qCS (HCC.out i u hu) (HBN.out _ HB9.out).2
         · exact HPR.out w9 _ _ M V.heap.size w8.heap.size (by omega) (by omega) hO8 HO9.out
     · obtain rfl:no=k:=by omega
       have h0:=HC.out.own.cell 0
       have h1:=HC.out.own.cell 1
       have h2:=HC.out.own.cell 2
       have h3:=HC.out.own.cell 3
       have h4:=HC.out.own.cell 4
       have h5:=HC.out.own.cell 5
       have h6:=HC.out.own.cell 6
       have r0:=HC.out.res.cell 0
       have r1:=HC.out.res.cell 1
       have r2:=HC.out.res.cell 2
       have r3:=HC.out.res.cell 3
       have r4:=HC.out.res.cell 4
       have r5:=HC.out.res.cell 5
       have r6:=HC.out.res.cell 6
       have f0:=HC.out.res.frozen 0
       have f1:=HC.out.res.frozen 1
       have f2:=HC.out.res.frozen 2
       have f3:=HC.out.res.frozen 3
       have f4:=HC.out.res.frozen 4
       have f5:=HC.out.res.frozen 5
       have f6:=HC.out.res.frozen 6
       go_wp2_with fail
       refine bodyPost_ret (v:= .agg #[.slice A5 nf c5,.slice A6 no c6,.slice A7 nh c7,.int .i64 s.quota,.int .i64 s.used,.int .i64 s.fin,.int .u64 (s.val:Int)]) (by simp[results,Tryz.results18,go_sem,h0,h1,h2,h3,h4,h5,h6,r0,r1,r2,r3,r4,r5,r6]) rfl ⟨[.slice A5 nf c5,.slice A6 no c6,.slice A7 nh c7,.int .i64 s.quota,.int .i64 s.used,.int .i64 s.fin,.int .u64 (s.val:Int)],rfl,?_,?_⟩
       · have hf0:(slL frL).R (New (N+2) wf) wf [.slice A5 nf c5] s.fr:=by
          have:=HC.out.fr
          rw[←HNF.out] at this
          have:=Half.done rfl HC.out.low.1 this
          rwa [HNF.out] at this
         have hp0:(slL obL).R (New (N+2) wf) wf [.slice A6 no c6] s.hp:=by
          have:=HC.out.hp
          rw[←HNO.out] at this
          have:=Half.done rfl HC.out.low.1 this
          rwa [HNO.out] at this
         have hn0:(slL hdL).R (New (N+2) wf) wf [.slice A7 nh c7] s.hn:=by
          have ho:=HC.out.hn.1
          obtain⟨A,c,e,h1,h2,h3⟩:=hds_sl ho HOK.out
          rcases Nat.eq_zero_or_pos s.hn.length with hz|hpos
          · rw[qA1 hz] at e h1⊢
            exact⟨A,c,by rw[e],h1,h2,Sq.nil _ _ _ _⟩
          refine⟨A,c,by rw[e],h1,h2,h3.wide fun b hb=>⟨hb.2.1,hb.2.2,fun i=> ?_⟩⟩
          rw[e] at ho hb
          obtain⟨g,c',e',-,-⟩:=qCM ho hpos
          simp only[Value.slice.injEq] at e'
          obtain⟨rfl,-,rfl⟩:=e'
          obtain rfl:g=b:=by simpa[Value.ownBlock] using hb.1
          exact ho.frozenAt i
         have hk:∀b,b≠N+1→(((((((wf.setCell ⟨N+1,0,none⟩ (.slice A5 nf c5)).setCell ⟨N+1,1,none⟩ (.slice A6 no c6)).setCell ⟨N+1,2,none⟩ (.slice A7 nh c7)).setCell ⟨N+1,3,none⟩ (.int .i64 s.quota)).setCell ⟨N+1,4,none⟩ (.int .i64 s.used)).setCell ⟨N+1,5,none⟩ (.int .i64 s.fin)).setCell ⟨N+1,6,none⟩ (.int .u64 (s.val:Int))).heap[b]? =wf.heap[b]? :=fun b hb=>by
          repeat(first|with_reducible exact rfl|(with_reducible refine(qAi _ _ _ _ ?_).trans ?_;exact hb))
         have hs:(((((((wf.setCell ⟨N+1,0,none⟩ (.slice A5 nf c5)).setCell ⟨N+1,1,none⟩ (.slice A6 no c6)).setCell ⟨N+1,2,none⟩ (.slice A7 nh c7)).setCell ⟨N+1,3,none⟩ (.int .i64 s.quota)).setCell ⟨N+1,4,none⟩ (.int .i64 s.used)).setCell ⟨N+1,5,none⟩ (.int .i64 s.fin)).setCell ⟨N+1,6,none⟩ (.int .u64 (s.val:Int))).heap.size=wf.heap.size:=by simp[World.setCell]
         have hw:∀b,New (N+2) wf b→New N (((((((wf.setCell ⟨N+1,0,none⟩ (.slice A5 nf c5)).setCell ⟨N+1,1,none⟩ (.slice A6 no c6)).setCell ⟨N+1,2,none⟩ (.slice A7 nh c7)).setCell ⟨N+1,3,none⟩ (.int .i64 s.quota)).setCell ⟨N+1,4,none⟩ (.int .i64 s.used)).setCell ⟨N+1,5,none⟩ (.int .i64 s.fin)).setCell ⟨N+1,6,none⟩ (.int .u64 (s.val:Int))) b:=fun b hb=>by
          have:=hb.keep (w':=(((((((wf.setCell ⟨N+1,0,none⟩ (.slice A5 nf c5)).setCell ⟨N+1,1,none⟩ (.slice A6 no c6)).setCell ⟨N+1,2,none⟩ (.slice A7 nh c7)).setCell ⟨N+1,3,none⟩ (.int .i64 s.quota)).setCell ⟨N+1,4,none⟩ (.int .i64 s.used)).setCell ⟨N+1,5,none⟩ (.int .i64 s.fin)).setCell ⟨N+1,6,none⟩ (.int .u64 (s.val:Int)))) (hk b (by have:=hb.1;omega)) (by rw[hs];exact qAf _)
          exact⟨by have:=this.1;omega,this.2⟩
         have hkk:∀b,New (N+2) wf b→(((((((wf.setCell ⟨N+1,0,none⟩ (.slice A5 nf c5)).setCell ⟨N+1,1,none⟩ (.slice A6 no c6)).setCell ⟨N+1,2,none⟩ (.slice A7 nh c7)).setCell ⟨N+1,3,none⟩ (.int .i64 s.quota)).setCell ⟨N+1,4,none⟩ (.int .i64 s.used)).setCell ⟨N+1,5,none⟩ (.int .i64 s.fin)).setCell ⟨N+1,6,none⟩ (.int .u64 (s.val:Int))).heap[b]? =wf.heap[b]? :=fun b hb=>hk b (by have:=hb.1;omega)
         exact⟨_,_,_,rfl,(slL frL).wide ((slL frL).keep hf0 hkk) hw,(slL obL).wide ((slL obL).keep hp0 hkk) hw,(slL hdL).wide ((slL hdL).keep hn0 hkk) hw,HI.out⟩
       · have hb:=HB.out
         repeat(first|with_reducible exact hb|refine Below.setCell ?_ (by show N≤N+1;omega) _)
end Go.Proofs.YtconajaecpgjgaaGreat
