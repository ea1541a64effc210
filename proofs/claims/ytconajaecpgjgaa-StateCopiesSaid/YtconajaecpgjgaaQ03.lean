/-
Gc0
-/
import Derived.Test.YtconajaecpgjgaaQ02
import Derived.Deep.DeepCutAuto
set_option linter.unusedSimpArgs false
set_option linter.unusedVariables false
set_option maxRecDepth 100000
set_option maxHeartbeats 400000
namespace Go.Proofs.Ytconajaecpgjgaa
open Go.RowKit
theorem qD {P:Prop} (h:P:=by kernel_rfl):P:=h
theorem qj {P:Prop} (h:P:=by
 go_wp2_with fail
 go_ret
 exact⟨none,0,[],rfl,rfl,World.ownsRow_nil _ _ _ _,fun j x cs h=>by simp at h,zS _ _⟩):P:=h
theorem qCK:(Try.prog.info? 34).map (fun i=>(i.zero,i.size,i.bytes))=some (some (.agg #[.int .i64 0,.int .i64 0,.slice none 0 0,.slice none 0 0]),4,64):=by kernel_rfl
theorem qCv (A:Option Addr) (n c:Nat) (xs:List Frm) (w:World) (S:Nat→Prop) (hS:∀b,S b→b<w.heap.size) (hl:xs.length=n) (hR:Sq frL S w A xs) (hn:n≤1000000):
 Calls Try.prog 11 #[.slice A n c] w fun e w'=>∃(A':Option Addr) (c':Nat) (css:List (List Value)),e= .returned (.slice A' n c')∧css.length=n∧w'.ownsRow w.heap.size 34 4 (.slice A' n c') n css.flatten∧(∀(j:Nat) (x:Frm) (cs:List Value),xs[j]? =some x→css[j]? =some cs→frL.R S w' cs x)∧Below w.heap.size w w':=by
 have qq:∀(w:World) (a:Option Addr) (n c n' c':Nat),(binOp .eql 22 (.slice a n c) (.slice none n' c')).run Try.prog w= .ok (.bool a.isNone) w:=fun w a n c n' c'=>Lib.run_eql_slice_nil w _ _ a n c n' c' Try.underlying22
 have HL:=zL hl
 have HR:=zL hR
 rcases A with _|a
 · have h0:xs=[]:=by
    cases xs with
    |nil=>rfl
    |cons t ts=>obtain⟨a,e,-⟩:=hR (by simp);cases e
   subst h0
   obtain rfl:n=0:=by simpa using hl.symm
   clear hl hR
   go_enter Try.func11,Try.ntmps11
   exact qj
 · clear hl hR
   go_enter Try.func11,Try.ntmps11
   go_wp2_with (at_builtin
                refine zt frL _ rfl (.tmp 5) (.tmp 6) 22 34 rfl (.agg #[.int .i64 0,.int .i64 0,.slice none 0 0,.slice none 0 0]) 64 Try.underlying22 qCK rfl qY (by omega) w.heap.size (.slice (some ⟨w.heap.size,0,none⟩) 0 0) rfl (jN w _ _) a n c xs rfl HL.out S (HR.out.keep fun b hb=>zd w _ b (hS b hb)) (by omega) (by simp) ?_
                intro v2 w2 css hcl hown2 hRR hg2
                have HC2:=zL hcl
                have HO2:=zL hown2
                have HB2:=zL (((zS w.heap.size w).alloc (zQ _) (.cells #[] 34)).grown hg2 (by simp) (fun i hi=>by simp[Value.ownBlock] at hi;omega))
                have HB1:=zL (fun b (hb:b<w.heap.size)=>(hg2.block b qT (fun e=>by simp[Value.ownBlock] at e;omega):w2.heap[b]? =(w.alloc (.cells #[] 34)).heap[b]?))
                have HRR:=zL hRR
                clear hown2 hRR hg2 hcl)
   go_ret
   have hv:∃A' c',v2= .slice A' n c':=by
    rcases HO2.out.2 with⟨h,h0⟩|⟨g,cap,cur,h,_⟩
    · exact⟨none,0,by rw[h,h0]⟩
    · exact⟨_,_,h⟩
   obtain⟨A',c',rfl⟩:=hv
   exact⟨A',c',css,rfl,HC2.out,HO2.out,fun j x cs h1 h2=>frL.keep (HRR.out j x cs h1 h2) fun b hb=>HB1.out b (hS b hb),HB2.out⟩
theorem qCt (A:Option Addr) (n c:Nat) (xs:List Ob) (w:World) (S:Nat→Prop) (hS:∀b,S b→b<w.heap.size) (hl:xs.length=n) (hR:Sq obL S w A xs) (hn:n≤1000000):
 Calls Try.prog 12 #[.slice A n c] w fun e w'=>∃(A':Option Addr) (c':Nat) (css:List (List Value)),e= .returned (.slice A' n c')∧css.length=n∧w'.ownsRow w.heap.size 37 4 (.slice A' n c') n css.flatten∧(∀(j:Nat) (x:Ob) (cs:List Value),xs[j]? =some x→css[j]? =some cs→obL.R S w' cs x)∧Below w.heap.size w w':=by
 have qq:∀(w:World) (a:Option Addr) (n c n' c':Nat),(binOp .eql 23 (.slice a n c) (.slice none n' c')).run Try.prog w= .ok (.bool a.isNone) w:=fun w a n c n' c'=>Lib.run_eql_slice_nil w _ _ a n c n' c' Try.underlying23
 have HL:=zL hl
 have HR:=zL hR
 rcases A with _|a
 · have h0:xs=[]:=by
    cases xs with
    |nil=>rfl
    |cons t ts=>obtain⟨a,e,-⟩:=hR (by simp);cases e
   subst h0
   obtain rfl:n=0:=by simpa using hl.symm
   clear hl hR
   go_enter Try.func12,Try.ntmps12
   exact qj
 · clear hl hR
   go_enter Try.func12,Try.ntmps12
   go_wp2_with (at_builtin
                refine zt obL _ rfl (.tmp 5) (.tmp 6) 23 37 rfl (.agg #[.int .i64 0,.int .i64 0,.slice none 0 0,.slice none 0 0]) 64 Try.underlying23 qCH rfl qY (by omega) w.heap.size (.slice (some ⟨w.heap.size,0,none⟩) 0 0) rfl (jN w _ _) a n c xs rfl HL.out S (HR.out.keep fun b hb=>zd w _ b (hS b hb)) (by omega) (by simp) ?_
                intro v2 w2 css hcl hown2 hRR hg2
                have HC2:=zL hcl
                have HO2:=zL hown2
                have HB2:=zL (((zS w.heap.size w).alloc (zQ _) (.cells #[] 37)).grown hg2 (by simp) (fun i hi=>by simp[Value.ownBlock] at hi;omega))
                have HB1:=zL (fun b (hb:b<w.heap.size)=>(hg2.block b qT (fun e=>by simp[Value.ownBlock] at e;omega):w2.heap[b]? =(w.alloc (.cells #[] 37)).heap[b]?))
                have HRR:=zL hRR
                clear hown2 hRR hg2 hcl)
   go_ret
   have hv:∃A' c',v2= .slice A' n c':=by
    rcases HO2.out.2 with⟨h,h0⟩|⟨g,cap,cur,h,_⟩
    · exact⟨none,0,by rw[h,h0]⟩
    · exact⟨_,_,h⟩
   obtain⟨A',c',rfl⟩:=hv
   exact⟨A',c',css,rfl,HC2.out,HO2.out,fun j x cs h1 h2=>obL.keep (HRR.out j x cs h1 h2) fun b hb=>HB1.out b (hS b hb),HB2.out⟩
theorem qCu (A:Option Addr) (n c:Nat) (xs:List Hnd) (w:World) (S:Nat→Prop) (hS:∀b,S b→b<w.heap.size) (hl:xs.length=n) (hR:Sq hdL S w A xs) (hn:n≤1000000):
 Calls Try.prog 13 #[.slice A n c] w fun e w'=>∃(A':Option Addr) (c':Nat) (css:List (List Value)),e= .returned (.slice A' n c')∧css.length=n∧w'.ownsRow w.heap.size 39 3 (.slice A' n c') n css.flatten∧(∀(j:Nat) (x:Hnd) (cs:List Value),xs[j]? =some x→css[j]? =some cs→hdL.R S w' cs x)∧Below w.heap.size w w':=by
 have qq:∀(w:World) (a:Option Addr) (n c n' c':Nat),(binOp .eql 24 (.slice a n c) (.slice none n' c')).run Try.prog w= .ok (.bool a.isNone) w:=fun w a n c n' c'=>Lib.run_eql_slice_nil w _ _ a n c n' c' Try.underlying24
 have HL:=zL hl
 have HR:=zL hR
 rcases A with _|a
 · have h0:xs=[]:=by
    cases xs with
    |nil=>rfl
    |cons t ts=>obtain⟨a,e,-⟩:=hR (by simp);cases e
   subst h0
   obtain rfl:n=0:=by simpa using hl.symm
   clear hl hR
   go_enter Try.func13,Try.ntmps13
   exact qj
 · clear hl hR
   go_enter Try.func13,Try.ntmps13
   go_wp2_with (at_builtin
                refine zt hdL _ rfl (.tmp 5) (.tmp 6) 24 39 rfl (.agg #[.int .i64 0,.int .u64 0,.bool false]) 24 Try.underlying24 qCJ rfl qY (by omega) w.heap.size (.slice (some ⟨w.heap.size,0,none⟩) 0 0) rfl (jN w _ _) a n c xs rfl HL.out S (HR.out.keep fun b hb=>zd w _ b (hS b hb)) (by omega) (by simp) ?_
                intro v2 w2 css hcl hown2 hRR hg2
                have HC2:=zL hcl
                have HO2:=zL hown2
                have HB2:=zL (((zS w.heap.size w).alloc (zQ _) (.cells #[] 39)).grown hg2 (by simp) (fun i hi=>by simp[Value.ownBlock] at hi;omega))
                have HB1:=zL (fun b (hb:b<w.heap.size)=>(hg2.block b qT (fun e=>by simp[Value.ownBlock] at e;omega):w2.heap[b]? =(w.alloc (.cells #[] 39)).heap[b]?))
                have HRR:=zL hRR
                clear hown2 hRR hg2 hcl)
   go_ret
   have hv:∃A' c',v2= .slice A' n c':=by
    rcases HO2.out.2 with⟨h,h0⟩|⟨g,cap,cur,h,_⟩
    · exact⟨none,0,by rw[h,h0]⟩
    · exact⟨_,_,h⟩
   obtain⟨A',c',rfl⟩:=hv
   exact⟨A',c',css,rfl,HC2.out,HO2.out,fun j x cs h1 h2=>hdL.keep (HRR.out j x cs h1 h2) fun b hb=>HB1.out b (hS b hb),HB2.out⟩
def New (M:Nat) (w:World) (b:Nat):Prop:=M≤b∧b<w.heap.size∧∀i,w.frozen? ⟨b,i,none⟩=false
theorem New.keep {M b:Nat} {w w':World} (h:New M w b) (hk:w'.heap[b]? =w.heap[b]?) (hs:w.heap.size≤w'.heap.size):New M w' b:=⟨h.1,zP h.2.1 hs,fun i=>(World.frozen?_of_block (a:=⟨b,i,none⟩) hk).trans (h.2.2 i)⟩
theorem qAV {M base ty n:Nat} {w:World} {v:Value} {cs:List Value} (h:w.ownsRow base ty 1 v n cs) (hM:M≤base):Part (New M w) w ty v cs:=by
 have hl:cs.length=n:=by have:=h.1;omega
 rcases h.2 with⟨rfl,rfl⟩|⟨g,cap,cur,rfl,hb,hg,hnc,hcm,hcs,ht⟩
 · obtain rfl:cs=[]:=z7 hl
   exact Part.nil _ _ _
 · refine⟨some ⟨g,0,none⟩,cap,by rw[hl],by omega,hcm,fun _=>⟨g,cur,rfl,⟨by omega,(Array.getElem?_eq_some_iff.1 hg).1,fun i=>Blk.frozen hg i⟩,hg,fun i u hu=> ?_⟩⟩
   have hi:=(zR.1 hu).1
   rw[←ht,List.getElem?_take_of_lt (by omega)] at hu
   simpa using hu
def Half {α:Type} (La:Lay α) (ty N B M k:Nat) (w:World) (v:Value) (xs:List α):Prop:=
 ∃css:List (List Value),css.length=xs.length∧w.ownsRow B ty 4 v xs.length css.flatten∧(∀b,v.ownBlock=some b→b<M)∧∀(j:Nat) (x:α) (cs:List Value),xs[j]? =some x→css[j]? =some cs→La.R (fun b=>if j<k then New M w b else b<N) w cs x
theorem Half.keep {α:Type} {La:Lay α} {ty N B M k:Nat} {w w':World} {v:Value} {xs:List α} (h:Half La ty N B M k w v xs) (hN:N≤M) (hs:w.heap.size≤w'.heap.size) (hv:∀b,v.ownBlock=some b→w'.heap[b]? =w.heap[b]?) (hk:∀b,b<N∨(M≤b∧b<w.heap.size)→w'.heap[b]? =w.heap[b]?):Half La ty N B M k w' v xs:=by
 obtain⟨css,h1,h2,h3,h4⟩:=h
 refine⟨css,h1,zf h2 hv,h3,fun j x cs e1 e2=> ?_⟩
 have q:=h4 j x cs e1 e2
 by_cases hj:j<k
 · simp only[hj,if_true] at q⊢
   exact La.wide (La.keep q fun b hb=>hk b (.inr ⟨hb.1,hb.2.1⟩)) fun b hb=>hb.keep (hk b (.inr ⟨hb.1,hb.2.1⟩)) hs
 · simp only[hj,if_false] at q⊢
   exact La.keep q fun b hb=>hk b (.inl hb)
theorem Half.shape {α:Type} {La:Lay α} {ty N B M k:Nat} {w:World} {v:Value} {xs:List α} (h:Half La ty N B M k w v xs):∃A c,v= .slice A xs.length c:=by
 obtain⟨css,h1,h2,-,-⟩:=h
 rcases h2.2 with⟨rfl,h0⟩|⟨g,cap,cur,rfl,_⟩
 · exact⟨none,0,by rw[h0]⟩
 · exact⟨_,_,rfl⟩
theorem Half.at {α:Type} {La:Lay α} {ty N B M k n c:Nat} {A:Option Addr} {w:World} {xs:List α} (h4:La.k=4) (h:Half La ty N B M k w (.slice A n c) xs) {j:Nat} {x:α} (hj:xs[j]? =some x):
 ∃g cs,A=some ⟨g,0,none⟩∧n=xs.length∧B≤g∧g<M∧g<w.heap.size∧(∀i u,cs[i]? =some u→w.cell? ⟨g,j*4+i,none⟩=some u)∧(∀i,w.frozen? ⟨g,i,none⟩=false)∧La.R (fun b=>if j<k then New M w b else b<N) w cs x:=by
 obtain⟨css,h1,h2,h3,h5⟩:=h
 have hlt:j<xs.length:=(zR.1 hj).1
 have hcs:=zM (show j<css.length by omega)
 have hR:=h5 j x _ hj hcs
 have hk4:∀cs∈css,cs.length=4:=fun cs hc=>by
  obtain⟨i,hi⟩:=ze.1 hc
  have hil:i<xs.length:=by rw[←h1];exact(zR.1 hi).1
  rw[La.len (h5 i _ cs (zM hil) hi),h4]
 obtain⟨g,c',e,hb,hg⟩:=jU h2 (by omega)
 simp only[Value.slice.injEq] at e
 obtain⟨rfl,rfl,rfl⟩:=e
 refine⟨g,_,rfl,rfl,hb,h3 g rfl,hg,fun i u hu=> ?_,fun i=>h2.frozenAt i,hR⟩
 have hi:i<4:=by rw[←h4,←La.len hR];exact(zR.1 hu).1
 have:=h2.cells rfl (j*4+i) u (by rw[jP hk4 hcs i hi];exact hu)
 rwa [add_zero] at this
theorem Half.step {α:Type} {La:Lay α} {ty N B M k n c g:Nat} {w:World} {xs:List α} (h4:La.k=4) (hN:N≤B) (h:Half La ty N B M k w (.slice (some ⟨g,0,none⟩) n c) xs) {x:α} (hj:xs[k]? =some x) {cs:List Value} (hcs:∀i u,cs[i]? =some u→w.cell? ⟨g,k*4+i,none⟩=some u) {u2 u3:Value} (hl:cs.length=4) (hR:La.R (New M w) w ((cs.set 2 u2).set 3 u3) x):
 Half La ty N B M (k+1) ((w.setCell ⟨g,k*4+2,none⟩ u2).setCell ⟨g,k*4+3,none⟩ u3) (.slice (some ⟨g,0,none⟩) n c) xs:=by
 obtain⟨css,h1,h2,h3,h5⟩:=h
 have hlt:k<xs.length:=(zR.1 hj).1
 have hg:=h3 g rfl
 have hgN:N≤g:=zp hN (h2.lt g rfl).1
 have hk4:∀cs∈css,cs.length=4:=fun cs hc=>by
  obtain⟨i,hi⟩:=ze.1 hc
  have hil:i<xs.length:=by rw[←h1];exact(zR.1 hi).1
  rw[La.len (h5 i _ cs (zM hil) hi),h4]
 have hck:css[k]? =some cs:=by
  have e:=zM (show k<css.length by omega)
  have hl':=hk4 _ (List.getElem_mem (show k<css.length by omega))
  rw[e]
  congr 1
  refine List.ext_getElem? fun i=> ?_
  rcases Nat.lt_or_ge i 4 with hi|hi
  · have e1:=h2.cells rfl (k*4+i) ((css[k]'(by omega))[i]'(by omega)) (by rw[jP hk4 e i hi];exact zM _)
    rw[add_zero] at e1
    have e2:=hcs i (cs[i]'(by omega)) (zM _)
    rw[e1] at e2
    rw[zM (show i<(css[k]'(by omega)).length by omega),zM (show i<cs.length by omega)]
    exact e2
  · rw[List.getElem?_eq_none (by omega),List.getElem?_eq_none (by omega)]
 have hnn:n=xs.length:=by
  rcases h2.2 with⟨h,-⟩|⟨g',cap,cur,h,_⟩
  · cases h
  · simp only[Value.slice.injEq] at h
    exact h.2.1
 subst hnn
 have o1:=(h2.stored (k*4+2) u2).1
 rw[jW hk4 hck (by omega) u2] at o1
 have hk4':∀ds∈css.set k (cs.set 2 u2),ds.length=4:=fun ds hd=>by
  rcases List.mem_or_eq_of_mem_set hd with q|q
  · exact hk4 ds q
  · rw[q,List.length_set,hl]
 have o2:=(o1.stored (k*4+3) u3).1
 rw[jW hk4' (cs:=cs.set 2 u2) (by rw[List.getElem?_set];simp;omega) (by omega) u3,List.set_set] at o2
 have hb:∀b,b≠g→((w.setCell ⟨g,k*4+2,none⟩ u2).setCell ⟨g,k*4+3,none⟩ u3).heap[b]? =w.heap[b]? :=fun b hb=>(zX _ _ _ _ hb).trans (zX _ _ _ _ hb)
 have hsz:((w.setCell ⟨g,k*4+2,none⟩ u2).setCell ⟨g,k*4+3,none⟩ u3).heap.size=w.heap.size:=by simp[World.setCell]
 refine⟨_,by rw[List.length_set];exact h1,o2,h3,fun j y ds e1 e2=> ?_⟩
 by_cases hjk:j=k
 · subst hjk
   rw[List.getElem?_set] at e2
   simp[show j<css.length by omega] at e2
   subst e2
   rw[hj] at e1
   injection e1 with e1
   subst e1
   simp only[Nat.lt_succ_self,if_true]
   exact La.wide (La.keep hR fun b hb'=>hb b (by have:=hb'.1;omega)) fun b hb'=>hb'.keep (hb b (by have:=hb'.1;omega)) (by rw[hsz];exact zQ _)
 · rw[List.getElem?_set_ne (fun e=>hjk e.symm)] at e2
   have q:=h5 j y ds e1 e2
   by_cases hlk:j<k
   · have hlk':j<k+1:=by omega
     simp only[hlk,hlk',if_true] at q⊢
     exact La.wide (La.keep q fun b hb'=>hb b (by have:=hb'.1;omega)) fun b hb'=>hb'.keep (hb b (by have:=hb'.1;omega)) (by rw[hsz];exact zQ _)
   · have hlk':¬j<k+1:=by omega
     simp only[hlk,hlk',if_false] at q⊢
     exact La.keep q fun b hb'=>hb b (by omega)
theorem Half.done {α:Type} {La:Lay α} {ty N B M:Nat} {w:World} {v:Value} {xs:List α} (h4:La.k=4) (hN:B≤M) (h:Half La ty N B M xs.length w v xs):(slL La).R (New B w) w [v] xs:=by
 have hsh:=h.shape
 obtain⟨A,c,rfl⟩:=hsh
 have hat:= @Half.at α La ty N B M xs.length xs.length c A w xs h4 h
 obtain⟨css,h1,h2,h3,h5⟩:=h
 have hc:xs.length≤c∧c≤maxLen:=by
  rcases h2.2 with⟨h,h0⟩|⟨g,cap,cur,h,_,_,hnc,hcm,_,_⟩
  · simp only[Value.slice.injEq] at h
    exact⟨by omega,by rw[h.2.2];simp[maxLen]⟩
  · simp only[Value.slice.injEq] at h
    exact⟨by omega,by omega⟩
 refine⟨A,c,rfl,hc.1,hc.2,fun hp=> ?_⟩
 obtain⟨g,c',e,hb,hg⟩:=jU h2 hp
 simp only[Value.slice.injEq] at e
 obtain⟨rfl,-,rfl⟩:=e
 refine⟨_,rfl,⟨hb,hg,fun i=>h2.frozenAt i⟩,fun j x hx=> ?_⟩
 obtain⟨g',cs,eg,-,-,-,-,hcl,-,hR⟩:=hat hx
 injection eg with eg
 injection eg with eg
 subst eg
 have hj:=(zR.1 hx).1
 simp only[hj,if_true] at hR
 exact⟨cs,fun i u hu=>by rw[h4,add_zero];exact hcl i u hu,La.wide hR fun b hb=>⟨by have:=hb.1;omega,hb.2⟩⟩
end Go.Proofs.Ytconajaecpgjgaa
