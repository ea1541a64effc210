/-
Hr Hcl Gc0 Gb Gbs Gb2 Lsg
-/
import Derived.Test.YtconajaecpgjgaaGreatProg
import Derived.Test.YtconajaecpgjgaaGreatT01
import Derived.Test.YtconajaecpgjgaaGreatT02
import Derived.Test.YtconajaecpgjgaaGreatT06
import Derived.Test.YtconajaecpgjgaaGreatT08
import Derived.Test.YtconajaecpgjgaaGreatT09
import Derived.Deep.RegionHeld3
import Derived.Deep.DeepCutAuto
set_option linter.unusedSimpArgs false
set_option linter.unusedVariables false
set_option maxRecDepth 100000
set_option maxHeartbeats 2000000
namespace Go.Proofs.YtconajaecpgjgaaGreat
open Go.RowKit
theorem jO {P:Prop} (h:P:=by
 go_wp2_with fail
 go_ret
 exact⟨none,0,[],rfl,rfl,World.ownsRow_nil _ _ _ _,fun j x cs h=>by simp at h,qAe _ _⟩):P:=h
theorem ob_info:(Tryz.prog.info? 54).map (fun i=>(i.zero,i.size,i.bytes))=some (some (.agg #[.int .i64 0,.int .i64 0,.slice none 0 0,.slice none 0 0]),4,64):=by kernel_rfl
def put4 (w:World) (g i:Nat) (u0 u1 u2 u3:Value):World:=(((w.setCell ⟨g,i,none⟩ u0).setCell ⟨g,i+1,none⟩ u1).setCell ⟨g,i+2,none⟩ u2).setCell ⟨g,i+3,none⟩ u3
theorem qCX (w:World) (g i:Nat) (u0 u1 u2 u3:Value) (b:Nat) (hb:b≠g):(put4 w g i u0 u1 u2 u3).heap[b]? =w.heap[b]? :=by
 unfold put4
 rw[qAi _ _ _ _ hb,qAi _ _ _ _ hb,qAi _ _ _ _ hb,qAi _ _ _ _ hb]
theorem qIp {w:World} {base ty g n c j:Nat} {css:List (List Value)} {cs:List Value} (hk:∀ds∈css,ds.length=4) (hj:css[j]? =some cs) (h:w.ownsRow base ty 4 (.slice (some ⟨g,0,none⟩) n c) n css.flatten) (u0 u1 u2 u3:Value):
 (put4 w g (j*4) u0 u1 u2 u3).ownsRow base ty 4 (.slice (some ⟨g,0,none⟩) n c) n (css.set j [u0,u1,u2,u3]).flatten:=by
 have h4:cs.length=4:=hk cs (qAk hj)
 have hjl:=(qAh.1 hj).1
 have s0:=(h.stored (j*4) u0).1
 rw[show j*4=j*4+0 from rfl,qCP hk hj (by omega) u0,Nat.add_zero] at s0
 have k1:∀ds∈css.set j (cs.set 0 u0),ds.length=4:=fun ds hd=>by
  rcases List.mem_or_eq_of_mem_set hd with h|h
  · exact hk ds h
  · rw[h,List.length_set];exact h4
 have j1:(css.set j (cs.set 0 u0))[j]? =some (cs.set 0 u0):=by rw[List.getElem?_set_self hjl]
 have s1:=(s0.stored (j*4+1) u1).1
 rw[qCP k1 j1 (by omega) u1,List.set_set] at s1
 have k2:∀ds∈css.set j ((cs.set 0 u0).set 1 u1),ds.length=4:=fun ds hd=>by
  rcases List.mem_or_eq_of_mem_set hd with h|h
  · exact hk ds h
  · rw[h,List.length_set,List.length_set];exact h4
 have j2:(css.set j ((cs.set 0 u0).set 1 u1))[j]? =some ((cs.set 0 u0).set 1 u1):=by rw[List.getElem?_set_self hjl]
 have s2:=(s1.stored (j*4+2) u2).1
 rw[qCP k2 j2 (by omega) u2,List.set_set] at s2
 have k3:∀ds∈css.set j (((cs.set 0 u0).set 1 u1).set 2 u2),ds.length=4:=fun ds hd=>by
  rcases List.mem_or_eq_of_mem_set hd with h|h
  · exact hk ds h
  · rw[h,List.length_set,List.length_set,List.length_set];exact h4
 have j3:(css.set j (((cs.set 0 u0).set 1 u1).set 2 u2))[j]? =some (((cs.set 0 u0).set 1 u1).set 2 u2):=by rw[List.getElem?_set_self hjl]
 have s3:=(s2.stored (j*4+3) u3).1
 rw[qCP k3 j3 (by omega) u3,List.set_set] at s3
 have e:(((cs.set 0 u0).set 1 u1).set 2 u2).set 3 u3=[u0,u1,u2,u3]:=by
  match cs,h4 with
  |[a,b,c,d],_=>rfl
 rw[e] at s3
 exact s3
theorem Row.put {S P0 P1:Nat→Prop} {tag:Nat→Nat} {w:World} {g n c j:Nat} {css:List (List Value)} {O:List Ob} {o:Ob} {u0 u1 u2 u3:Value} (h:Row S tag w (.slice (some ⟨g,0,none⟩) n c) css O) (hj:j<O.length)
 (hob:Obj1 P0 P1 w [u0,u1,u2,u3] o) (p0:∀b,P0 b→¬S b) (p1:∀b,P1 b→¬S b) (p01:∀b,P0 b→¬P1 b):
 ∃tag',Row (fun b=>S b∨P0 b∨P1 b) tag' (put4 w g (j*4) u0 u1 u2 u3) (.slice (some ⟨g,0,none⟩) n c) (css.set j [u0,u1,u2,u3]) (O.set j o)∧∀b,S b→tag' b=tag b:=by
 classical
 have h4:=h.len4
 obtain⟨hl,hown,hb,hR⟩:=h
 have hT:∃tag':Nat→Nat,(∀b,S b→tag' b=tag b)∧(∀b,P0 b→tag' b=2*j+2)∧(∀b,P1 b→tag' b=2*j+3):=by
  refine⟨fun b=>if S b then tag b else if P0 b then 2*j+2 else 2*j+3,fun b hb=>by simp[hb],fun b hb=> ?_,fun b hb=> ?_⟩
  · show(if S b then tag b else if P0 b then _ else _)=_
    rw[if_neg (p0 b hb),if_pos hb]
  · show(if S b then tag b else if P0 b then _ else _)=_
    rw[if_neg (p1 b hb),if_neg (fun q=>p01 b q hb)]
 obtain⟨tag',t1,t2,t3⟩:=hT
 have hg:=hb g rfl
 have hjl:j<css.length:=by rw[hl];exact hj
 have hjc:css[j]? =some (css[j]'hjl):=qAa _
 have en:n=O.length:=by
  obtain⟨g',c',e,-⟩:=qCM hown (by omega)
  simp only[Value.slice.injEq] at e
  exact e.2.1
 have hown':(put4 w g (j*4) u0 u1 u2 u3).ownsRow 0 54 4 (.slice (some ⟨g,0,none⟩) n c) n (css.set j [u0,u1,u2,u3]).flatten:=qIp h4 hjc (by rw[en];rw[en] at hown;exact hown) u0 u1 u2 u3
 refine⟨tag',⟨by simp[hl],by rw[List.length_set,←en];exact hown',fun b e=>⟨.inl (hb b e).1,by rw[t1 b (hb b e).1];exact(hb b e).2⟩,fun j' o' cs' h1 h2=> ?_⟩,t1⟩
 rw[List.getElem?_set] at h1 h2
 by_cases e:j=j'
 · subst e
   rw[if_pos rfl,if_pos hj] at h1
   rw[if_pos rfl,if_pos (by omega)] at h2
   injection h1 with h1
   injection h2 with h2
   subst h1 h2
   exact(hob.keep (w':=put4 w g (j*4) u0 u1 u2 u3) (fun b hb'=>qCX w g _ _ _ _ _ b (fun q=>p0 b hb' (by rw[q];exact hg.1))) fun b hb'=>qCX w g _ _ _ _ _ b (fun q=>p1 b hb' (by rw[q];exact hg.1))).wide (fun b _ hb'=>⟨.inr (.inl hb'),t2 b hb'⟩) fun b _ hb'=>⟨.inr (.inr hb'),t3 b hb'⟩
 · rw[if_neg e] at h1 h2
   exact((hR j' o' cs' h1 h2).keep (w':=put4 w g (j*4) u0 u1 u2 u3) (fun b hb'=>qCX w g _ _ _ _ _ b (fun q=>by subst q;have:=hg.2;omega)) fun b hb'=>qCX w g _ _ _ _ _ b (fun q=>by subst q;have:=hg.2;omega)).wide (fun b _ hb'=>⟨.inl hb'.1,by rw[t1 b hb'.1];exact hb'.2⟩) fun b _ hb'=>⟨.inl hb'.1,by rw[t1 b hb'.1];exact hb'.2⟩
def zer4:List Value:=[.int .i64 0,.int .i64 0,.slice none 0 0,.slice none 0 0]
theorem qFk:(Tryz.prog.info? 34).map (fun i=>(i.zero,i.size,i.bytes))=some (some (.int .u64 0),1,8):=by kernel_rfl
theorem qEa {S:Nat→Prop} {w:World}:∀{css:List (List Value)} {xs:List Nat},css.length=xs.length→(∀(j:Nat) (x:Nat) (cs:List Value),xs[j]? =some x→css[j]? =some cs→numL.R S w cs x)→css.flatten=Ns xs
 |[],[],_,_=>rfl
 |[],_::_,h,_=>by simp at h
 |_::_,[],h,_=>by simp at h
 |c::css,x::xs,h,hR=>by
  have h0:=hR 0 x c rfl rfl
  have ih:=qEa (css:=css) (xs:=xs) (by simpa using h) fun j y cs h1 h2=>hR (j+1) y cs (by simpa using h1) (by simpa using h2)
  rw[List.flatten_cons,ih,h0.1]
  rfl
theorem qDB (A:Option Addr) (n c:Nat) (xs:List Nat) (w:World) (hl:xs.length=n) (hR:Sq numL (·<w.heap.size) w A xs) (hn:n≤1000000):
 Calls Tryz.prog 47 #[.slice A n c] w fun e w'=>∃v,e= .returned v∧w'.ownsRow w.heap.size 34 1 v n (Ns xs)∧Below w.heap.size w w':=by
 have qq:∀(w:World) (a:Option Addr) (n c n' c':Nat),(binOp .eql 25 (.slice a n c) (.slice none n' c')).run Tryz.prog w= .ok (.bool a.isNone) w:=fun w a n c n' c'=>Lib.run_eql_slice_nil w _ _ a n c n' c' Tryz.underlying25
 have HL:=qAZ hl
 have HR:=qAZ hR
 rcases A with _|a
 · have h0:xs=[]:=by
    cases xs with
    |nil=>rfl
    |cons t ts=>obtain⟨a,e,-⟩:=hR (by simp);cases e
   subst h0
   obtain rfl:n=0:=by simpa using hl.symm
   clear hl hR
   go_enter Tryz.func47,Tryz.ntmps47
   go_wp2_with fail
   exact jb
 · clear hl hR
   go_enter Tryz.func47,Tryz.ntmps47
   go_wp2_with (at_builtin
                refine qBr numL _ rfl (.tmp 5) (.tmp 6) 25 34 rfl (.int .u64 0) 8 Tryz.underlying25 qFk rfl zB (by omega) w.heap.size (.slice (some ⟨w.heap.size,0,none⟩) 0 0) rfl (qCY w _ _) a n c xs rfl HL.out (·<w.heap.size) (HR.out.keep fun b hb=>qBM w _ b hb) (by omega) (by simp) ?_
                intro v2 w2 css hcl hown2 hRR hg2
                rw[qEa (hcl.trans HL.out.symm) hRR] at hown2
                have HO2:=qAZ hown2
                have HB2:=qAZ (((qAe w.heap.size w).alloc (qAf _) (.cells #[] 34)).grown hg2 (by simp) (fun i hi=>by simp[Value.ownBlock] at hi;omega))
                clear hown2 hRR hg2 hcl)
   go_ret
   exact⟨_,rfl,HO2.out,HB2.out⟩
theorem qGq (A:Option Addr) (n c:Nat) (xs:List Nat) (w:World) (hl:xs.length=n) (hR:Byt (·<w.heap.size) w A xs) (hn:n≤1000000):
 Calls Tryz.prog 48 #[.slice A n c] w fun e w'=>∃v,e= .returned v∧w'.ownsRow w.heap.size 5 1 v n (Bs xs)∧Below w.heap.size w w':=by
 have qq:∀(w:World) (a:Option Addr) (n c n' c':Nat),(binOp .eql 52 (.slice a n c) (.slice none n' c')).run Tryz.prog w= .ok (.bool a.isNone) w:=fun w a n c n' c'=>Lib.run_eql_slice_nil w _ _ a n c n' c' Tryz.underlying52
 have HL:=qAZ hl
 have HR:=qAZ hR
 rcases A with _|a
 · have h0:xs=[]:=by
    cases xs with
    |nil=>rfl
    |cons t ts=>obtain⟨a,e,-⟩:=hR (by simp);cases e
   subst h0
   obtain rfl:n=0:=by simpa using hl.symm
   clear hl hR
   go_enter Tryz.func48,Tryz.ntmps48
   go_wp2_with fail
   exact jb
 · clear hl hR
   go_enter Tryz.func48,Tryz.ntmps48
   go_wp2_with (at_builtin
                refine qA3 _ rfl (.tmp 5) (.tmp 6) rfl w.heap.size (.slice (some ⟨w.heap.size,0,none⟩) 0 0) 0 [] rfl (qHN w) (some a) n c xs rfl HL.out (·<w.heap.size)
                 (HR.out.keep fun b hb=>qBM w _ b hb) (by omega) (by simp) ?_
                intro v1 w1 hown1 hg1 _
                have HO2:=qAZ (show w1.ownsRow w.heap.size 5 1 v1 n (Bs xs) from by simpa using hown1)
                have HB2:=qAZ (((qAe w.heap.size w).alloc (qAf _) (.cells #[] 5)).grown hg1 (by simp) (fun i hi=>by simp[Value.ownBlock] at hi;omega))
                clear hown1 hg1)
   go_ret
   exact⟨_,rfl,HO2.out,HB2.out⟩
theorem fr_info:(Tryz.prog.info? 67).map (fun i=>(i.zero,i.size,i.bytes))=some (some (.agg #[.int .i64 0,.int .i64 0,.slice none 0 0,.slice none 0 0]),4,64):=by kernel_rfl
theorem qHx (A:Option Addr) (n c:Nat) (xs:List Frm) (w:World) (S:Nat→Prop) (hS:∀b,S b→b<w.heap.size) (hl:xs.length=n) (hR:Sq frL S w A xs) (hn:n≤1000000):
 Calls Tryz.prog 44 #[.slice A n c] w fun e w'=>∃(A':Option Addr) (c':Nat) (css:List (List Value)),e= .returned (.slice A' n c')∧css.length=n∧w'.ownsRow w.heap.size 67 4 (.slice A' n c') n css.flatten∧(∀(j:Nat) (x:Frm) (cs:List Value),xs[j]? =some x→css[j]? =some cs→frL.R S w' cs x)∧Below w.heap.size w w':=by
 have qq:∀(w:World) (a:Option Addr) (n c n' c':Nat),(binOp .eql 31 (.slice a n c) (.slice none n' c')).run Tryz.prog w= .ok (.bool a.isNone) w:=fun w a n c n' c'=>Lib.run_eql_slice_nil w _ _ a n c n' c' Tryz.underlying31
 have HL:=qAZ hl
 have HR:=qAZ hR
 rcases A with _|a
 · have h0:xs=[]:=by
    cases xs with
    |nil=>rfl
    |cons t ts=>obtain⟨a,e,-⟩:=hR (by simp);cases e
   subst h0
   obtain rfl:n=0:=by simpa using hl.symm
   clear hl hR
   go_enter Tryz.func44,Tryz.ntmps44
   exact jO
 · clear hl hR
   go_enter Tryz.func44,Tryz.ntmps44
   go_wp2_with (at_builtin
                refine qBr frL _ rfl (.tmp 5) (.tmp 6) 31 67 rfl (.agg #[.int .i64 0,.int .i64 0,.slice none 0 0,.slice none 0 0]) 64 Tryz.underlying31 fr_info rfl zB (by omega) w.heap.size (.slice (some ⟨w.heap.size,0,none⟩) 0 0) rfl (qCY w _ _) a n c xs rfl HL.out S (HR.out.keep fun b hb=>qBM w _ b (hS b hb)) (by omega) (by simp) ?_
                intro v2 w2 css hcl hown2 hRR hg2
                have HC2:=qAZ hcl
                have HO2:=qAZ hown2
                have HB2:=qAZ (((qAe w.heap.size w).alloc (qAf _) (.cells #[] 67)).grown hg2 (by simp) (fun i hi=>by simp[Value.ownBlock] at hi;omega))
                have HB1:=qAZ (fun b (hb:b<w.heap.size)=>(hg2.block b qf (fun e=>by simp[Value.ownBlock] at e;omega):w2.heap[b]? =(w.alloc (.cells #[] 67)).heap[b]?))
                have HRR:=qAZ hRR
                clear hown2 hRR hg2 hcl)
   go_ret
   have hv:∃A' c',v2= .slice A' n c':=by
    rcases HO2.out.2 with⟨h,h0⟩|⟨g,cap,cur,h,_⟩
    · exact⟨none,0,by rw[h,h0]⟩
    · exact⟨_,_,h⟩
   obtain⟨A',c',rfl⟩:=hv
   exact⟨A',c',css,rfl,HC2.out,HO2.out,fun j x cs h1 h2=>frL.keep (HRR.out j x cs h1 h2) fun b hb=>HB1.out b (hS b hb),HB2.out⟩
theorem qHv (A:Option Addr) (n c:Nat) (xs:List Ob) (w:World) (S:Nat→Prop) (hS:∀b,S b→b<w.heap.size) (hl:xs.length=n) (hR:Sq obL S w A xs) (hn:n≤1000000):
 Calls Tryz.prog 45 #[.slice A n c] w fun e w'=>∃(A':Option Addr) (c':Nat) (css:List (List Value)),e= .returned (.slice A' n c')∧css.length=n∧w'.ownsRow w.heap.size 54 4 (.slice A' n c') n css.flatten∧(∀(j:Nat) (x:Ob) (cs:List Value),xs[j]? =some x→css[j]? =some cs→obL.R S w' cs x)∧Below w.heap.size w w':=by
 have qq:∀(w:World) (a:Option Addr) (n c n' c':Nat),(binOp .eql 32 (.slice a n c) (.slice none n' c')).run Tryz.prog w= .ok (.bool a.isNone) w:=fun w a n c n' c'=>Lib.run_eql_slice_nil w _ _ a n c n' c' Tryz.underlying32
 have HL:=qAZ hl
 have HR:=qAZ hR
 rcases A with _|a
 · have h0:xs=[]:=by
    cases xs with
    |nil=>rfl
    |cons t ts=>obtain⟨a,e,-⟩:=hR (by simp);cases e
   subst h0
   obtain rfl:n=0:=by simpa using hl.symm
   clear hl hR
   go_enter Tryz.func45,Tryz.ntmps45
   exact jO
 · clear hl hR
   go_enter Tryz.func45,Tryz.ntmps45
   go_wp2_with (at_builtin
                refine qBr obL _ rfl (.tmp 5) (.tmp 6) 32 54 rfl (.agg #[.int .i64 0,.int .i64 0,.slice none 0 0,.slice none 0 0]) 64 Tryz.underlying32 ob_info rfl zB (by omega) w.heap.size (.slice (some ⟨w.heap.size,0,none⟩) 0 0) rfl (qCY w _ _) a n c xs rfl HL.out S (HR.out.keep fun b hb=>qBM w _ b (hS b hb)) (by omega) (by simp) ?_
                intro v2 w2 css hcl hown2 hRR hg2
                have HC2:=qAZ hcl
                have HO2:=qAZ hown2
                have HB2:=qAZ (((qAe w.heap.size w).alloc (qAf _) (.cells #[] 54)).grown hg2 (by simp) (fun i hi=>by simp[Value.ownBlock] at hi;omega))
                have HB1:=qAZ (fun b (hb:b<w.heap.size)=>(hg2.block b qf (fun e=>by simp[Value.ownBlock] at e;omega):w2.heap[b]? =(w.alloc (.cells #[] 54)).heap[b]?))
                have HRR:=qAZ hRR
                clear hown2 hRR hg2 hcl)
   go_ret
   have hv:∃A' c',v2= .slice A' n c':=by
    rcases HO2.out.2 with⟨h,h0⟩|⟨g,cap,cur,h,_⟩
    · exact⟨none,0,by rw[h,h0]⟩
    · exact⟨_,_,h⟩
   obtain⟨A',c',rfl⟩:=hv
   exact⟨A',c',css,rfl,HC2.out,HO2.out,fun j x cs h1 h2=>obL.keep (HRR.out j x cs h1 h2) fun b hb=>HB1.out b (hS b hb),HB2.out⟩
theorem qHw (A:Option Addr) (n c:Nat) (xs:List Hnd) (w:World) (S:Nat→Prop) (hS:∀b,S b→b<w.heap.size) (hl:xs.length=n) (hR:Sq hdL S w A xs) (hn:n≤1000000):
 Calls Tryz.prog 46 #[.slice A n c] w fun e w'=>∃(A':Option Addr) (c':Nat) (css:List (List Value)),e= .returned (.slice A' n c')∧css.length=n∧w'.ownsRow w.heap.size 51 3 (.slice A' n c') n css.flatten∧(∀(j:Nat) (x:Hnd) (cs:List Value),xs[j]? =some x→css[j]? =some cs→hdL.R S w' cs x)∧Below w.heap.size w w':=by
 have qq:∀(w:World) (a:Option Addr) (n c n' c':Nat),(binOp .eql 33 (.slice a n c) (.slice none n' c')).run Tryz.prog w= .ok (.bool a.isNone) w:=fun w a n c n' c'=>Lib.run_eql_slice_nil w _ _ a n c n' c' Tryz.underlying33
 have HL:=qAZ hl
 have HR:=qAZ hR
 rcases A with _|a
 · have h0:xs=[]:=by
    cases xs with
    |nil=>rfl
    |cons t ts=>obtain⟨a,e,-⟩:=hR (by simp);cases e
   subst h0
   obtain rfl:n=0:=by simpa using hl.symm
   clear hl hR
   go_enter Tryz.func46,Tryz.ntmps46
   exact jO
 · clear hl hR
   go_enter Tryz.func46,Tryz.ntmps46
   go_wp2_with (at_builtin
                refine qBr hdL _ rfl (.tmp 5) (.tmp 6) 33 51 rfl (.agg #[.int .i64 0,.int .u64 0,.bool false]) 24 Tryz.underlying33 hd_info rfl zB (by omega) w.heap.size (.slice (some ⟨w.heap.size,0,none⟩) 0 0) rfl (qCY w _ _) a n c xs rfl HL.out S (HR.out.keep fun b hb=>qBM w _ b (hS b hb)) (by omega) (by simp) ?_
                intro v2 w2 css hcl hown2 hRR hg2
                have HC2:=qAZ hcl
                have HO2:=qAZ hown2
                have HB2:=qAZ (((qAe w.heap.size w).alloc (qAf _) (.cells #[] 51)).grown hg2 (by simp) (fun i hi=>by simp[Value.ownBlock] at hi;omega))
                have HB1:=qAZ (fun b (hb:b<w.heap.size)=>(hg2.block b qf (fun e=>by simp[Value.ownBlock] at e;omega):w2.heap[b]? =(w.alloc (.cells #[] 51)).heap[b]?))
                have HRR:=qAZ hRR
                clear hown2 hRR hg2 hcl)
   go_ret
   have hv:∃A' c',v2= .slice A' n c':=by
    rcases HO2.out.2 with⟨h,h0⟩|⟨g,cap,cur,h,_⟩
    · exact⟨none,0,by rw[h,h0]⟩
    · exact⟨_,_,h⟩
   obtain⟨A',c',rfl⟩:=hv
   exact⟨A',c',css,rfl,HC2.out,HO2.out,fun j x cs h1 h2=>hdL.keep (HRR.out j x cs h1 h2) fun b hb=>HB1.out b (hS b hb),HB2.out⟩
def New (M:Nat) (w:World) (b:Nat):Prop:=M≤b∧b<w.heap.size∧∀i,w.frozen? ⟨b,i,none⟩=false
theorem New.keep {M b:Nat} {w w':World} (h:New M w b) (hk:w'.heap[b]? =w.heap[b]?) (hs:w.heap.size≤w'.heap.size):New M w' b:=⟨h.1,qAg h.2.1 hs,fun i=>(World.frozen?_of_block (a:=⟨b,i,none⟩) hk).trans (h.2.2 i)⟩
theorem qDm {M base ty n:Nat} {w:World} {v:Value} {cs:List Value} (h:w.ownsRow base ty 1 v n cs) (hM:M≤base):Part (New M w) w ty v cs:=by
 have hl:cs.length=n:=by have:=h.1;omega
 rcases h.2 with⟨rfl,rfl⟩|⟨g,cap,cur,rfl,hb,hg,hnc,hcm,hcs,ht⟩
 · obtain rfl:cs=[]:=qA1 hl
   exact Part.nil _ _ _
 · refine⟨some ⟨g,0,none⟩,cap,by rw[hl],by omega,hcm,fun _=>⟨g,cur,rfl,⟨by omega,(Array.getElem?_eq_some_iff.1 hg).1,fun i=>Blk.frozen hg i⟩,hg,fun i u hu=> ?_⟩⟩
   have hi:=(qAh.1 hu).1
   rw[←ht,List.getElem?_take_of_lt (by omega)] at hu
   simpa using hu
def Half {α:Type} (La:Lay α) (ty N B M k:Nat) (w:World) (v:Value) (xs:List α):Prop:=
 ∃css:List (List Value),css.length=xs.length∧w.ownsRow B ty 4 v xs.length css.flatten∧(∀b,v.ownBlock=some b→b<M)∧∀(j:Nat) (x:α) (cs:List Value),xs[j]? =some x→css[j]? =some cs→La.R (fun b=>if j<k then New M w b else b<N) w cs x
theorem Half.keep {α:Type} {La:Lay α} {ty N B M k:Nat} {w w':World} {v:Value} {xs:List α} (h:Half La ty N B M k w v xs) (hN:N≤M) (hs:w.heap.size≤w'.heap.size) (hv:∀b,v.ownBlock=some b→w'.heap[b]? =w.heap[b]?) (hk:∀b,b<N∨(M≤b∧b<w.heap.size)→w'.heap[b]? =w.heap[b]?):Half La ty N B M k w' v xs:=by
 obtain⟨css,h1,h2,h3,h4⟩:=h
 refine⟨css,h1,qBd h2 hv,h3,fun j x cs e1 e2=> ?_⟩
 have q:=h4 j x cs e1 e2
 by_cases hj:j<k
 · simp only[hj,if_true] at q⊢
   exact La.wide (La.keep q fun b hb=>hk b (.inr ⟨hb.1,hb.2.1⟩)) fun b hb=>hb.keep (hk b (.inr ⟨hb.1,hb.2.1⟩)) hs
 · simp only[hj,if_false] at q⊢
   exact La.keep q fun b hb=>hk b (.inl hb)
theorem Half.shape {α:Type} {La:Lay α} {ty N B M k:Nat} {w:World} {v:Value} {xs:List α} (h:Half La ty N B M k w v xs):∃A c,v= .slice A xs.length c:=by
 obtain⟨css,h1,h2,-,-⟩:=h
 rcases h2.2 with⟨rfl,h0⟩|⟨g,cap,cur,rfl,_⟩
 · exact⟨none,0,by rw[h0]⟩
 · exact⟨_,_,rfl⟩
theorem Half.at {α:Type} {La:Lay α} {ty N B M k n c:Nat} {A:Option Addr} {w:World} {xs:List α} (h4:La.k=4) (h:Half La ty N B M k w (.slice A n c) xs) {j:Nat} {x:α} (hj:xs[j]? =some x):
 ∃g cs,A=some ⟨g,0,none⟩∧n=xs.length∧B≤g∧g<M∧g<w.heap.size∧(∀i u,cs[i]? =some u→w.cell? ⟨g,j*4+i,none⟩=some u)∧(∀i,w.frozen? ⟨g,i,none⟩=false)∧La.R (fun b=>if j<k then New M w b else b<N) w cs x:=by
 obtain⟨css,h1,h2,h3,h5⟩:=h
 have hlt:j<xs.length:=(qAh.1 hj).1
 have hcs:=qAa (show j<css.length by omega)
 have hR:=h5 j x _ hj hcs
 have hk4:∀cs∈css,cs.length=4:=fun cs hc=>by
  obtain⟨i,hi⟩:=qA8.1 hc
  have hil:i<xs.length:=by rw[←h1];exact(qAh.1 hi).1
  rw[La.len (h5 i _ cs (qAa hil) hi),h4]
 obtain⟨g,c',e,hb,hg⟩:=qCM h2 (by omega)
 simp only[Value.slice.injEq] at e
 obtain⟨rfl,rfl,rfl⟩:=e
 refine⟨g,_,rfl,rfl,hb,h3 g rfl,hg,fun i u hu=> ?_,fun i=>h2.frozenAt i,hR⟩
 have hi:i<4:=by rw[←h4,←La.len hR];exact(qAh.1 hu).1
 have:=h2.cells rfl (j*4+i) u (by rw[qCD hk4 hcs i hi];exact hu)
 rwa [add_zero] at this
theorem Half.step {α:Type} {La:Lay α} {ty N B M k n c g:Nat} {w:World} {xs:List α} (h4:La.k=4) (hN:N≤B) (h:Half La ty N B M k w (.slice (some ⟨g,0,none⟩) n c) xs) {x:α} (hj:xs[k]? =some x) {cs:List Value} (hcs:∀i u,cs[i]? =some u→w.cell? ⟨g,k*4+i,none⟩=some u) {u2 u3:Value} (hl:cs.length=4) (hR:La.R (New M w) w ((cs.set 2 u2).set 3 u3) x):
 Half La ty N B M (k+1) ((w.setCell ⟨g,k*4+2,none⟩ u2).setCell ⟨g,k*4+3,none⟩ u3) (.slice (some ⟨g,0,none⟩) n c) xs:=by
 obtain⟨css,h1,h2,h3,h5⟩:=h
 have hlt:k<xs.length:=(qAh.1 hj).1
 have hg:=h3 g rfl
 have hgN:N≤g:=qBA hN (h2.lt g rfl).1
 have hk4:∀cs∈css,cs.length=4:=fun cs hc=>by
  obtain⟨i,hi⟩:=qA8.1 hc
  have hil:i<xs.length:=by rw[←h1];exact(qAh.1 hi).1
  rw[La.len (h5 i _ cs (qAa hil) hi),h4]
 have hck:css[k]? =some cs:=by
  have e:=qAa (show k<css.length by omega)
  have hl':=hk4 _ (List.getElem_mem (show k<css.length by omega))
  rw[e]
  congr 1
  refine List.ext_getElem? fun i=> ?_
  rcases Nat.lt_or_ge i 4 with hi|hi
  · have e1:=h2.cells rfl (k*4+i) ((css[k]'(by omega))[i]'(by omega)) (by rw[qCD hk4 e i hi];exact qAa _)
    rw[add_zero] at e1
    have e2:=hcs i (cs[i]'(by omega)) (qAa _)
    rw[e1] at e2
    rw[qAa (show i<(css[k]'(by omega)).length by omega),qAa (show i<cs.length by omega)]
    exact e2
  · rw[List.getElem?_eq_none (by omega),List.getElem?_eq_none (by omega)]
 have hnn:n=xs.length:=by
  rcases h2.2 with⟨h,-⟩|⟨g',cap,cur,h,_⟩
  · cases h
  · simp only[Value.slice.injEq] at h
    exact h.2.1
 subst hnn
 have o1:=(h2.stored (k*4+2) u2).1
 rw[qCP hk4 hck (by omega) u2] at o1
 have hk4':∀ds∈css.set k (cs.set 2 u2),ds.length=4:=fun ds hd=>by
  rcases List.mem_or_eq_of_mem_set hd with q|q
  · exact hk4 ds q
  · rw[q,List.length_set,hl]
 have o2:=(o1.stored (k*4+3) u3).1
 rw[qCP hk4' (cs:=cs.set 2 u2) (by rw[List.getElem?_set];simp;omega) (by omega) u3,List.set_set] at o2
 have hb:∀b,b≠g→((w.setCell ⟨g,k*4+2,none⟩ u2).setCell ⟨g,k*4+3,none⟩ u3).heap[b]? =w.heap[b]? :=fun b hb=>(qAi _ _ _ _ hb).trans (qAi _ _ _ _ hb)
 have hsz:((w.setCell ⟨g,k*4+2,none⟩ u2).setCell ⟨g,k*4+3,none⟩ u3).heap.size=w.heap.size:=by simp[World.setCell]
 refine⟨_,by rw[List.length_set];exact h1,o2,h3,fun j y ds e1 e2=> ?_⟩
 by_cases hjk:j=k
 · subst hjk
   rw[List.getElem?_set] at e2
   simp[show j<css.length by omega] at e2
   subst e2
   rw[hj] at e1
   injection e1 with e1
   subst e1
   simp only[Nat.lt_succ_self,if_true]
   exact La.wide (La.keep hR fun b hb'=>hb b (by have:=hb'.1;omega)) fun b hb'=>hb'.keep (hb b (by have:=hb'.1;omega)) (by rw[hsz];exact qAf _)
 · rw[List.getElem?_set_ne (fun e=>hjk e.symm)] at e2
   have q:=h5 j y ds e1 e2
   by_cases hlk:j<k
   · have hlk':j<k+1:=by omega
     simp only[hlk,hlk',if_true] at q⊢
     exact La.wide (La.keep q fun b hb'=>hb b (by have:=hb'.1;omega)) fun b hb'=>hb'.keep (hb b (by have:=hb'.1;omega)) (by rw[hsz];exact qAf _)
   · have hlk':¬j<k+1:=by omega
     simp only[hlk,hlk',if_false] at q⊢
     exact La.keep q fun b hb'=>hb b (by omega)
theorem Half.done {α:Type} {La:Lay α} {ty N B M:Nat} {w:World} {v:Value} {xs:List α} (h4:La.k=4) (hN:B≤M) (h:Half La ty N B M xs.length w v xs):(slL La).R (New B w) w [v] xs:=by
 have hsh:=h.shape
 obtain⟨A,c,rfl⟩:=hsh
 have hat:= @Half.at α La ty N B M xs.length xs.length c A w xs h4 h
 obtain⟨css,h1,h2,h3,h5⟩:=h
 have hc:xs.length≤c∧c≤maxLen:=by
  rcases h2.2 with⟨h,h0⟩|⟨g,cap,cur,h,_,_,hnc,hcm,_,_⟩
  · simp only[Value.slice.injEq] at h
    exact⟨by omega,by rw[h.2.2];simp[maxLen]⟩
  · simp only[Value.slice.injEq] at h
    exact⟨by omega,by omega⟩
 refine⟨A,c,rfl,hc.1,hc.2,fun hp=> ?_⟩
 obtain⟨g,c',e,hb,hg⟩:=qCM h2 hp
 simp only[Value.slice.injEq] at e
 obtain⟨rfl,-,rfl⟩:=e
 refine⟨_,rfl,⟨hb,hg,fun i=>h2.frozenAt i⟩,fun j x hx=> ?_⟩
 obtain⟨g',cs,eg,-,-,-,-,hcl,-,hR⟩:=hat hx
 injection eg with eg
 injection eg with eg
 subst eg
 have hj:=(qAh.1 hx).1
 simp only[hj,if_true] at hR
 exact⟨cs,fun i u hu=>by rw[h4,add_zero];exact hcl i u hu,La.wide hR fun b hb=>⟨by have:=hb.1;omega,hb.2⟩⟩
theorem qIR (m n:Int) (w:World):Calls Tryz.prog 20 #[.int .i64 m,.int .i64 n] w fun e w'=>e= .returned (.bool (decide (0≤n∧n≤m)))∧w'=w:=by
 by_cases h0:0≤n
 all_goals by_cases h1:n≤m
 all_goals
  go_enter Tryz.func20,Tryz.ntmps20
  go_wp2_with fail
  go_ret
  exact⟨by simp[h0,h1],rfl⟩
theorem qEy (n:Nat) (hn:n≤1000) (w:World):(Instr.makeSlice 25 (.int .i64 (n:Nat)) (.int .i64 (n:Nat))).run Tryz.prog w= .ok (.slice (some ⟨w.heap.size,0,none⟩) n n) (w.alloc (.cells (madeCells #[.int .u64 0] n) 34)):=by
 obtain⟨i,hi,hz,hs,hb⟩:=info_parts qFk
 have:=run_make (P:=Tryz.prog) w 25 34 i _ Tryz.underlying25 hi hz .i64 .i64 (n:Int) (n:Int) (by omega) (Int.le_refl _) (by rw[hb];omega) (by omega)
 rw[hs,Int.toNat_natCast,Nat.mul_one] at this
 exact this
def ST0:List Value:=[.slice none 0 0,.slice none 0 0,.slice none 0 0,.int .i64 0,.int .i64 0,.int .i64 0,.int .u64 0]
def beginS (n:Nat) (q:Int):Stt:=⟨[⟨0,0,List.replicate n 0,[]⟩],[],[],q,0,0,0⟩
theorem qIt {S:Nat→Prop} {w:World} {b n:Nat} (h:Blk w b 34 (madeCells #[.int .u64 0] n)) (hn:n≤1000) (hS:S b):wrdL.R S w [.slice (some ⟨b,0,none⟩) n n] (List.replicate n 0):=by
 refine⟨some ⟨b,0,none⟩,n,by simp,by simp,by unfold maxLen;omega,fun _=>⟨_,rfl,hS,fun j x hx=>⟨[.int .u64 (x:Int)],fun i u hu=> ?_,rfl,?_⟩⟩⟩
 · obtain⟨hj,e⟩:=qAh.1 hx
   rw[List.length_replicate] at hj
   simp at e
   subst e
   match i,hu with
   |0,hu=>
    simp at hu
    subst hu
    rw[add_zero,show j*numL.k+0=j by show j*1+0=j;omega,h.cell]
    simp[madeCells,hj,Nat.mod_one]
   |i+1,hu=>simp at hu
 · obtain⟨hj,e⟩:=qAh.1 hx
   simp at e
   subst e
   unfold B64
   omega
theorem qGx {w:World} {S1 X n:Nat} {q:Int} (h1:Blk w S1 34 (madeCells #[.int .u64 0] n)) (h2:Blk w X 67 #[.int .i64 0,.int .i64 0,.slice (some ⟨S1,0,none⟩) n n,.slice none 0 0]) (hn:n≤1000) (hq:I64 q):
 stL.R (·<w.heap.size) w [.slice (some ⟨X,0,none⟩) 1 1,.slice none 0 0,.slice none 0 0,.int .i64 q,.int .i64 0,.int .i64 0,.int .u64 0] (beginS n q):=
 have z:I64 0:=⟨by decide,by decide⟩
 ⟨_,_,_,rfl,qE2 (L:=frL) (x:=⟨0,0,List.replicate n 0,[]⟩) h2 h2.lt ⟨_,_,rfl,z,z,qIt h1 hn h1.lt,qBZ _ _ _⟩,qBZ _ _ _,qBZ _ _ _,hq,z,z,by show(0:Nat)<B64;unfold B64;omega⟩
theorem run_fr1 (w:World) (b n:Nat):(Instr.build 67 #[(2,.slice (some ⟨b,0,none⟩) n n)]).run Tryz.prog w= .ok (.agg #[.int .i64 0,.int .i64 0,.slice (some ⟨b,0,none⟩) n n,.slice none 0 0]) w:=by kernel_rfl
theorem run_st1 (w:World) (b:Nat) (q:Int):(Instr.build 36 #[(0,.slice (some ⟨b,0,none⟩) 1 1),(3,.int .i64 q),(5,.int .i64 0)]).run Tryz.prog w= .ok (.agg #[.slice (some ⟨b,0,none⟩) 1 1,.slice none 0 0,.slice none 0 0,.int .i64 q,.int .i64 0,.int .i64 0,.int .u64 0]) w:=by kernel_rfl
theorem qGm {w:World} {A0 A1 A2 A3 A4:Option Addr} {n0 n1 n2 n3 n4 d0 d1 d2 d3 d4:Nat} {m:Mod} {fn:Fn} {fs:List Fn} (h:modL.R (·<w.heap.size) w [.slice A0 n0 d0,.slice A1 n1 d1,.slice A2 n2 d2,.slice A3 n3 d3,.slice A4 n4 d4] m) (hf:m.funcs=fn::fs):
 ∃a P c,A1=some a∧0<n1∧a.block<w.heap.size∧w.cell? ⟨a.block,a.off+3,none⟩=some (.slice P fn.locs.length c):=by
 obtain⟨_,_,_,_,_,ex,-,⟨A',d',ex1,-,-,s1⟩,-⟩:=h
 simp only[List.cons.injEq,and_true] at ex
 obtain⟨-,rfl,-⟩:=ex
 simp only[List.cons.injEq,Value.slice.injEq,and_true] at ex1
 obtain⟨rfl,e2,rfl⟩:=ex1
 have h0:m.funcs[0]? =some fn:=by rw[hf];rfl
 obtain⟨a,cs,e,hs,hc,p0,p1,p2,rfl,-,-,⟨P0,c0,e4,-⟩,⟨P1,c1,e5,-⟩,⟨P2,c2,e6,-⟩⟩:=s1.at h0
 simp only[List.cons.injEq,and_true] at e4 e5 e6
 subst e4 e5 e6
 have k3:=hc 3 _ rfl
 rw[show 0*fnL.k+3=3 from rfl,show a.add 3=⟨a.block,a.off+3,none⟩ by simp[Addr.add]] at k3
 exact⟨a,P1,c1,e,by rw[e2,hf];simp,hs,k3⟩
theorem qEn {w v:World} {p:Addr} {u:Value} (h:w.cell? p=some u) (hb:Below w.heap.size w v):v.cell? p=some u:=(hb.cell (qAn w _ h)).trans h
theorem qIL (cs:List Value) (m:Mod) (fn:Fn) (fs:List Fn) (q:Int) (w:World) (h:modL.R (·<w.heap.size) w cs m) (hf:m.funcs=fn::fs) (hn:fn.locs.length≤1000) (hq:I64 q) (hm:mainB m=true) (hq0:0≤q∧q≤65536):
 Calls Tryz.prog 8 #[vAgg cs,.int .i64 q] w fun e w'=>∃cs',e= .returned (.tuple #[vAgg cs',.int .i64 0])∧stL.R (·<w'.heap.size) w' cs' (beginS fn.locs.length q)∧Below w.heap.size w w':=by
 obtain⟨A0,A1,A2,A3,A4,n0,n1,n2,n3,n4,d0,d1,d2,d3,d4,rfl⟩:=qCy h
 obtain⟨a,P,c,rfl,hn1,hab,k3⟩:=qGm h hf
 have TM:Hid (∀w1,Below w.heap.size w w1→Calls Tryz.prog 19 #[.agg #[.slice A0 n0 d0,.slice (some a) n1 d1,.slice A2 n2 d2,.slice A3 n3 d3,.slice A4 n4 d4]] w1 (Tells true w1)):=fun w1 hb=>by
  have:=qFn _ m w1 (qBQ h hb)
  rwa [hm] at this
 have TU:Hid (∀w1,Calls Tryz.prog 20 #[.int .i64 65536,.int .i64 q] w1 fun e w'=>e= .returned (.bool true)∧w'=w1):=fun w1=>by
  have:=qIR 65536 q w1
  rwa [decide_eq_true hq0] at this
 obtain⟨nl,hnl⟩:∃x,fn.locs.length=x:=⟨_,rfl⟩
 rw[hnl] at k3 hn⊢
 have M1:=qEy nl hn
 have M2:=run_fr1
 have M3:=run_st1
 have hn1i:(0:Int)<(n1:Int):=by omega
 have HK3:=qAZ k3
 have HQ:=qAZ hq
 show Calls Tryz.prog 8 #[.agg #[.slice A0 n0 d0,.slice (some a) n1 d1,.slice A2 n2 d2,.slice A3 n3 d3,.slice A4 n4 d4],.int .i64 q] w fun e w'=>∃cs',e= .returned (.tuple #[vAgg cs',.int .i64 0])∧stL.R (·<w'.heap.size) w' cs' (beginS nl q)∧Below w.heap.size w w'
 obtain⟨N,hN⟩:∃N,w.heap.size=N:=⟨_,rfl⟩
 clear h hf k3 hnl hq hm hq0
 go_enter Tryz.func8,Tryz.ntmps8
 go_upto_region 1 with(fail)
 refine qAp fun W hW=> ?_
 have HB0:Hid (Below w.heap.size w W):=by show Below _ _ _;rw[hW];exact((qAe _ _).alloc (qAf _) _).alloc (by simp) _
 have HK0:Hid (Blk W N 28 #[.slice A0 n0 d0,.slice (some a) n1 d1,.slice A2 n2 d2,.slice A3 n3 d3,.slice A4 n4 d4]):=by show Blk _ _ _ _;rw[hW];exact qAd (qAm hN)
 have HK1:Hid (Blk W (N+1) 36 #[.slice none 0 0,.slice none 0 0,.slice none 0 0,.int .i64 0,.int .i64 0,.int .i64 0,.int .u64 0]):=by show Blk _ _ _ _;rw[hW];exact qAm qf
 have hsW:W.heap.size=N+2:=by rw[hW];simp;omega
 clear hW
 have y0:=HK0.out.cell 0
 have y1:=HK0.out.cell 1
 have y2:=HK0.out.cell 2
 have y3:=HK0.out.cell 3
 have y4:=HK0.out.cell 4
 go_upto_region 3 with(first
  |(go_at_call 19
    refine(TM.out _ HB0.out).mono ?_
    rintro e w1 ⟨rfl,hb1⟩
    have HB1:=qAZ hb1
    clear hb1 y0 y1 y2 y3 y4)
  |(go_at_call 20
    refine(TU.out _).mono ?_
    rintro e w2 ⟨rfl,hw2⟩
    have hw3:=hw2.symm
    subst hw3))
 have y1:=(qAc HK0.out HB1.out (by omega)).cell 1
 have x3:=qEn HK3.out (HB0.out.trans (HB1.out.mono HB0.out.size))
 have hs1:=HB1.out.size
 go_upto_region 4 with(fail)
 refine qAp fun U hU=> ?_
 obtain⟨S1,hS1⟩:∃x,w1.heap.size=x:=⟨_,rfl⟩
 have hsU:U.heap.size=S1+2:=by rw[hU];simp;omega
 have HBU:Hid (Below w.heap.size w U):=by show Below _ _ _;rw[hU];exact((HB0.out.trans (HB1.out.mono HB0.out.size)).alloc (by have:=HB0.out.size;omega) _).alloc (by have:=HB0.out.size;first|omega|(simp;omega)) _
 have HKS:Hid (Blk U S1 34 (madeCells #[.int .u64 0] nl)):=by show Blk _ _ _ _;rw[hU];exact qAd (qAm hS1)
 have HKF:Hid (Blk U (S1+1) 67 #[.int .i64 0,.int .i64 0,.slice (some ⟨S1,0,none⟩) nl nl,.slice none 0 0]):=by show Blk _ _ _ _;rw[hU,hS1];refine qAm ?_;rw[World.size_alloc,hS1]
 have HKR:Hid (Blk U (N+1) 36 #[.slice none 0 0,.slice none 0 0,.slice none 0 0,.int .i64 0,.int .i64 0,.int .i64 0,.int .u64 0]):=by show Blk _ _ _ _;rw[hU];exact qAd (qAd (qAc HK1.out HB1.out (by omega)))
 clear hU y1 x3
 rw[hS1]
 have z0:=HKF.out.cell 0
 have z1:=HKF.out.cell 1
 have z2:=HKF.out.cell 2
 have z3:=HKF.out.cell 3
 obtain⟨X,hX⟩:∃X,X=S1+2:=⟨_,rfl⟩
 have r0:=fun o=>(qAd (o:=o) HKR.out).cell 0
 have r1:=fun o=>(qAd (o:=o) HKR.out).cell 1
 have r2:=fun o=>(qAd (o:=o) HKR.out).cell 2
 have r3:=fun o=>(qAd (o:=o) HKR.out).cell 3
 have r4:=fun o=>(qAd (o:=o) HKR.out).cell 4
 have r5:=fun o=>(qAd (o:=o) HKR.out).cell 5
 have r6:=fun o=>(qAd (o:=o) HKR.out).cell 6
 have f0:=fun o=>(qAd (o:=o) HKR.out).frozen 0
 have f1:=fun o=>(qAd (o:=o) HKR.out).frozen 1
 have f2:=fun o=>(qAd (o:=o) HKR.out).frozen 2
 have f3:=fun o=>(qAd (o:=o) HKR.out).frozen 3
 have f4:=fun o=>(qAd (o:=o) HKR.out).frozen 4
 have f5:=fun o=>(qAd (o:=o) HKR.out).frozen 5
 have f6:=fun o=>(qAd (o:=o) HKR.out).frozen 6
 go_wp2_with fail
 refine bodyPost_ret (v:= .tuple #[.agg #[.slice (some ⟨X,0,none⟩) 1 1,.slice none 0 0,.slice none 0 0,.int .i64 q,.int .i64 0,.int .i64 0,.int .u64 0],.int .i64 0]) (by simp[results,Tryz.results8,go_sem,r0,r1,r2,r3,r4,r5,r6,hX,hsU]) rfl ⟨[.slice (some ⟨X,0,none⟩) 1 1,.slice none 0 0,.slice none 0 0,.int .i64 q,.int .i64 0,.int .i64 0,.int .u64 0],rfl,?_,?_⟩
 · have e1:(U.alloc (.cells #[.int .i64 0,.int .i64 0,.slice (some ⟨S1,0,none⟩) nl nl,.slice none 0 0] 67)).heap[S1]? =some (.cells (madeCells #[.int .u64 0] nl) 34):=qAd HKS.out
   have e2:(U.alloc (.cells #[.int .i64 0,.int .i64 0,.slice (some ⟨S1,0,none⟩) nl nl,.slice none 0 0] 67)).heap[X]? =some (.cells #[.int .i64 0,.int .i64 0,.slice (some ⟨S1,0,none⟩) nl nl,.slice none 0 0] 67):=qAm (by omega)
   have hSN:S1≠N+1∧X≠N+1:=by omega
   have hk:∀(W2:World) b i u,b≠N+1→(W2.setCell ⟨N+1,i,none⟩ u).heap[b]? =W2.heap[b]? :=fun W2 b i u hb=>qAi _ _ _ _ hb
   refine qGx (S1:=S1) ?_ ?_ hn HQ.out
   all_goals(show _=_;repeat(first|with_reducible exact e1|with_reducible exact e2|(with_reducible refine(hk _ _ _ _ ?_).trans ?_;first|exact hSN.1|exact hSN.2)))
 · have hb:Below w.heap.size w (U.alloc (.cells #[.int .i64 0,.int .i64 0,.slice (some ⟨S1,0,none⟩) nl nl,.slice none 0 0] 67)):=HBU.out.alloc (by have:=HBU.out.size;omega) _
   repeat(first|with_reducible exact hb|refine Below.setCell ?_ (by show w.heap.size≤N+1;omega) _)
section
variable {P:Program} {ops:Array Oper} {Q:Exit→Go.Act→World→Prop} {md:Region.Mode} {S:World→Prop} {kp:Nat}
def wpAnyG (P:Program) (md:Region.Mode) (ops:Array Oper) (Q:Exit→Go.Act→World→Prop) (S:World→Prop) (kp:Nat):Nat→Array Bool→Go.Act→World→Prop
 |0,listed,a,w=>Region.ready md ops listed=[]∧Q .normal a w
 |fuel+1,listed,a,w=>
  (Region.ready md ops listed=[]→Q .normal a w)∧
  ∀i∈Region.ready md ops listed,wpOp P ops Q i (fun a' w'=>((listed.setIfInBounds i true).getD kp true=false→S w')∧wpAnyG P md ops Q S kp fuel (listed.setIfInBounds i true) a' w') a w
theorem qDu:∀(fuel:Nat) (listed:Array Bool) (a:Go.Act) (w:World),wpAnyG P md ops Q S kp fuel listed a w→wpAny P md ops Q fuel listed a w
 |0,_,_,_,h=>h
 |fuel+1,_,_,_,h=>⟨h.1,fun i hi=>wpOp_mono (fun a' w' h'=>qDu fuel _ a' w' h'.2) (h.2 i hi)⟩
theorem qEs {i:Nat} {oi:Oper} {v:Value} (hi:ops[i]? =some oi) (hsel:∀(j:Nat) (o:Oper) cs b,ops[j]? =some o→o.op≠.select cs b) (hk:∃ok,ops[kp]? =some ok∧∃e∈ok.after,Region.binds md e=true∧e.on=i) (hki:kp≠i)
 (hQ:∀c a w,Q (.panic c) (a.put oi.dst v) w→Q (.panic c) a w):
 ∀(fuel:Nat) (listed:Array Bool) (a:Go.Act) (w:World),listed.getD kp true=false→
  (∀j oj,ops[j]? =some oj→j≠i→listed.getD j true=false→(∀e∈oj.after,Region.binds md e=true→e.on≠i)→oi.apart ops oj=true)→
  i∈Region.ready md ops listed→YieldsIf P ops S oi v a→S w→
  wpAnyG P md ops Q S kp fuel (listed.setIfInBounds i true) (a.put oi.dst v) w→wpAnyG P md ops Q S kp (fuel+1) listed a w:=by
 intro fuel
 induction fuel with
 |zero=>
  intro listed a w hkl _ hr hy hS H
  refine⟨fun h=>(by rw[h] at hr;cases hr),fun j hj=> ?_⟩
  by_cases hji:j=i
  · subst hji;exact hy.wpOp hi hS ⟨fun _=>hS,H⟩
  · have:=ready_mono hj hji
    rw[H.1] at this
    cases this
 |succ fuel ih=>
  intro listed a w hkl hfree hr hy hS H
  refine⟨fun h=>(by rw[h] at hr;cases hr),fun j hj=> ?_⟩
  by_cases hji:j=i
  · subst hji;exact hy.wpOp hi hS ⟨fun _=>hS,H⟩
  · have h1:=H.2 j (ready_mono hj hji)
    obtain⟨hjun,oj,hoj,hall⟩:=mem_ready.1 hj
    have hnot:∀e∈oj.after,Region.binds md e=true→e.on≠i:=fun e he hb heq=>by
     have h1:=hall e he hb
     have h0:=(mem_ready.1 hr).1
     rw[heq] at h1
     rcases Nat.lt_or_ge i listed.size with h'|h'
     · simp[h'] at h0 h1;rw[h0] at h1;cases h1
     · simp[Array.getElem?_eq_none h'] at h1
    have hjk:j≠kp:=by
     rintro rfl
     obtain⟨ok,h1,e,he,h2,h3⟩:=hk
     rw[hoj] at h1
     injection h1 with h1
     subst h1
     exact hnot e he h2 h3
    have h2:=wpOp_putIf hoj (hfree j oj hoj hji hjun hnot) (fun cs b=>hsel i oi cs b hi) (fun cs b=>hsel j oj cs b hoj) hQ hy h1
    have hfree':∀k ok,ops[k]? =some ok→k≠i→(listed.setIfInBounds j true).getD k true=false→
     (∀e∈ok.after,Region.binds md e=true→e.on≠i)→oi.apart ops ok=true:=fun k ok hk hki hun hno=>by
     refine hfree k ok hk hki ?_ hno
     by_cases hjk:j=k
     · subst hjk;exact hjun
     · rw[getD_set_ne true hjk] at hun;exact hun
    have hkl':(listed.setIfInBounds j true).getD kp true=false:=by rw[getD_set_ne true hjk];exact hkl
    have hkl2:((listed.setIfInBounds i true).setIfInBounds j true).getD kp true=false:=by rw[getD_set_ne true hjk,getD_set_ne true (Ne.symm hki)];exact hkl
    refine wpOp_mono (fun a' w' h3=>⟨fun _=>h3.2.1 hkl2,ih (listed.setIfInBounds j true) a' w' hkl' hfree' (ready_mono hr (Ne.symm hji)) h3.1 (h3.2.1 hkl2) ?_⟩) h2
    rw[Array.setIfInBounds_comm _ _ hji]
    exact h3.2.2
theorem qFO {i:Nat} {oi:Oper} {v:Value} (hi:ops[i]? =some oi) (hsel:∀(j:Nat) (o:Oper) cs b,ops[j]? =some o→o.op≠.select cs b) (hki:kp≠i)
 (hQ:∀c a w,Q (.panic c) (a.put oi.dst v) w→Q (.panic c) a w):
 ∀(fuel:Nat) (listed:Array Bool) (a:Go.Act) (w:World),(listed.getD kp true=false→S w)→
  (∀j oj,ops[j]? =some oj→j≠i→listed.getD j true=false→(∀e∈oj.after,Region.binds md e=true→e.on≠i)→oi.apart ops oj=true)→
  i∈Region.ready md ops listed→YieldsIf P ops (fun _=>True) oi v a→
  wpAnyG P md ops Q S kp fuel (listed.setIfInBounds i true) (a.put oi.dst v) w→wpAnyG P md ops Q S kp (fuel+1) listed a w:=by
 intro fuel
 induction fuel with
 |zero=>
  intro listed a w hS _ hr hy H
  refine⟨fun h=>(by rw[h] at hr;cases hr),fun j hj=> ?_⟩
  by_cases hji:j=i
  · subst hji;exact hy.wpOp hi trivial ⟨fun hh=>hS (by rwa [getD_set_ne true (Ne.symm hki)] at hh),H⟩
  · have:=ready_mono hj hji
    rw[H.1] at this
    cases this
 |succ fuel ih=>
  intro listed a w hS hfree hr hy H
  refine⟨fun h=>(by rw[h] at hr;cases hr),fun j hj=> ?_⟩
  by_cases hji:j=i
  · subst hji;exact hy.wpOp hi trivial ⟨fun hh=>hS (by rwa [getD_set_ne true (Ne.symm hki)] at hh),H⟩
  · have h1:=H.2 j (ready_mono hj hji)
    obtain⟨hjun,oj,hoj,hall⟩:=mem_ready.1 hj
    have hnot:∀e∈oj.after,Region.binds md e=true→e.on≠i:=fun e he hb heq=>by
     have h1:=hall e he hb
     have h0:=(mem_ready.1 hr).1
     rw[heq] at h1
     rcases Nat.lt_or_ge i listed.size with h'|h'
     · simp[h'] at h0 h1;rw[h0] at h1;cases h1
     · simp[Array.getElem?_eq_none h'] at h1
    have h2:=wpOp_putIf hoj (hfree j oj hoj hji hjun hnot) (fun cs b=>hsel i oi cs b hi) (fun cs b=>hsel j oj cs b hoj) hQ hy h1
    have hfree':∀k ok,ops[k]? =some ok→k≠i→(listed.setIfInBounds j true).getD k true=false→
     (∀e∈ok.after,Region.binds md e=true→e.on≠i)→oi.apart ops ok=true:=fun k ok hk hki hun hno=>by
     refine hfree k ok hk hki ?_ hno
     by_cases hjk:j=k
     · subst hjk;exact hjun
     · rw[getD_set_ne true hjk] at hun;exact hun
    have hs:∀w',(((listed.setIfInBounds i true).setIfInBounds j true).getD kp true=false→S w')→(listed.setIfInBounds j true).getD kp true=false→S w':=fun w' h3 hh=>h3 (by
     rw[Array.setIfInBounds_comm _ _ (Ne.symm hji),getD_set_ne true (Ne.symm hki)];exact hh)
    refine wpOp_mono (fun a' w' h3=>⟨hs w' h3.2.1,ih (listed.setIfInBounds j true) a' w' (hs w' h3.2.1) hfree' (ready_mono hr (Ne.symm hji)) h3.1 ?_⟩) h2
    rw[Array.setIfInBounds_comm _ _ hji]
    exact h3.2.2
def waitsB (md:Region.Mode) (ops:Array Oper) (kp i:Nat):Bool:=decide (kp≠i) && (match ops[kp]? with|some o=>o.after.toList.any fun e=>Region.binds md e && e.on==i|none=>false)
theorem qDX {i:Nat} (h:waitsB md ops kp i=true):kp≠i∧∃ok,ops[kp]? =some ok∧∃e∈ok.after,Region.binds md e=true∧e.on=i:=by
 unfold waitsB at h
 simp only[Bool.and_eq_true,decide_eq_true_eq] at h
 obtain⟨h1,h2⟩:=h
 refine⟨h1,?_⟩
 cases e:ops[kp]? with
 |none=>rw[e] at h2;cases h2
 |some o=>
  rw[e] at h2
  simp only[List.any_eq_true,Bool.and_eq_true,beq_iff_eq] at h2
  obtain⟨e,he,h3,h4⟩:=h2
  exact⟨o,rfl,e,Array.mem_toList_iff.1 he,h3,h4⟩
theorem qCd {i:Nat} {oi:Oper} {v:Value} {fuel:Nat} {listed:Array Bool} {a:Go.Act} {w:World} (hi:ops[i]? =some oi)
 (hs:Region.noSelect ops=true) (hf:Region.free md ops listed i=true) (hr:(Region.ready md ops listed).contains i=true) (hk:waitsB md ops kp i=true) (hl:listed.getD kp true=false)
 (hQ:∀c a w,Q (.panic c) (a.put oi.dst v) w→Q (.panic c) a w) (hy:YieldsIf P ops S oi v a) (hS:S w)
 (h:wpAnyG P md ops Q S kp fuel (listed.setIfInBounds i true) (a.put oi.dst v) w):wpAnyG P md ops Q S kp (fuel+1) listed a w:=
 qEs hi (Region.noSelect_spec hs) (qDX hk).2 (qDX hk).1 hQ fuel listed a w hl (Region.free_spec hi hf) (by simpa using hr) hy hS h
theorem qBj {i:Nat} {oi:Oper} {v:Value} {fuel:Nat} {listed:Array Bool} {a:Go.Act} {w:World} (hi:ops[i]? =some oi)
 (hs:Region.noSelect ops=true) (hf:Region.free md ops listed i=true) (hr:(Region.ready md ops listed).contains i=true) (hk:kp≠i) (hS:listed.getD kp true=false→S w)
 (hQ:∀c a w,Q (.panic c) (a.put oi.dst v) w→Q (.panic c) a w) (hy:YieldsIf P ops (fun _=>True) oi v a)
 (h:wpAnyG P md ops Q S kp fuel (listed.setIfInBounds i true) (a.put oi.dst v) w):wpAnyG P md ops Q S kp (fuel+1) listed a w:=
 qFO hi (Region.noSelect_spec hs) hk hQ fuel listed a w hS (Region.free_spec hi hf) (by simpa using hr) hy h
theorem qBy {i:Nat} {o:Oper} {fuel:Nat} {listed:Array Bool} {a:Go.Act} {w:World} (hr:Region.ready md ops listed=[i]) (ho:ops[i]? =some o)
 (h:∀K:Go.Act→World→Prop,Shut (∀a' w',((listed.setIfInBounds i true).getD kp true=false→S w')→wpAnyG P md ops Q S kp fuel (listed.setIfInBounds i true) a' w'→K a' w')→
   if Region.wanted o (yielded ops a.tmps)=true then o.wp P a w K Q else K (a.put o.dst undef) w):wpAnyG P md ops Q S kp (fuel+1) listed a w:=by
 refine⟨fun h0=>(by rw[h0] at hr;cases hr),fun j hj=> ?_⟩
 rw[hr] at hj
 obtain rfl:j=i:=by simpa using hj
 have:=h (fun a' w'=>((listed.setIfInBounds j true).getD kp true=false→S w')∧wpAnyG P md ops Q S kp fuel (listed.setIfInBounds j true) a' w') (fun a' w' h1 h2=>⟨h1,h2⟩)
 unfold wpOp
 simp only[ho]
 split
 · rename_i hw
   rw[if_pos hw] at this
   exact .inl this
 · rename_i hw
   rw[if_neg hw] at this
   exact this
theorem qFP {listed:Array Bool} {a:Go.Act} {w:World} (hr:Region.ready md ops listed=[]) (h:Q .normal a w):∀fuel,wpAnyG P md ops Q S kp fuel listed a w
 |0=>⟨hr,h⟩
 |_+1=>⟨fun _=>h,by rw[hr];simp⟩
theorem qF8 {id:Nat} {a:Go.Act} {w:World} (kp:Nat) (S:World→Prop) (hm:P.follows .mixedOrders=true) (hS:S w.drew) (h:S w.drew→wpAnyG P .any ops Q S kp ops.size (Array.replicate ops.size false) a w.drew):(Code.region id ops true).wp P Q a w:=
 wp_region_any hm (qDu _ _ _ _ (h hS))
theorem qDD {fuel:Nat} {listed:Array Bool} {a:Go.Act} {w:World} (h:∀X,X=w→wpAnyG P md ops Q S kp fuel listed a X):wpAnyG P md ops Q S kp fuel listed a w:=h w rfl
end
end Go.Proofs.YtconajaecpgjgaaGreat
