/-
Gs Hr Lst Hcl Cps Stp Rcp
-/
import Derived.Test.YtconajaecpgjgaaProg
import Derived.Test.YtconajaecpgjgaaQ01
import Derived.Deep.RegionHeld3
import Derived.Deep.DeepCutAuto
import Derived.Deep.RegionLaw
set_option linter.unusedSimpArgs false
set_option linter.unusedVariables false
set_option maxRecDepth 100000
set_option maxHeartbeats 400000
namespace Go.Proofs.Ytconajaecpgjgaa
open Go.RowKit
theorem zK {P:Prop} (h:P:=by
 go_ret
 exact⟨_,rfl,World.ownsRow_nil _ _ _ _,zS _ _⟩):P:=h
structure Frm where
 fn:Int
 pc:Int
 locs:List Nat
 stk:List Nat
theorem Frm.eq_of {a b:Frm} (h1:a.fn=b.fn) (h2:a.pc=b.pc) (h3:a.locs=b.locs) (h4:a.stk=b.stk):a=b:=by
 cases a;cases b;simp_all
instance:DecidableEq Frm:=fun a b=>decidable_of_iff (a.fn=b.fn∧a.pc=b.pc∧a.locs=b.locs∧a.stk=b.stk) ⟨fun h=>Frm.eq_of h.1 h.2.1 h.2.2.1 h.2.2.2,fun h=>by subst h;exact⟨rfl,rfl,rfl,rfl⟩⟩
instance:Inhabited Frm:=⟨⟨0,0,[],[]⟩⟩
structure Stt where
 fr:List Frm
 hp:List Ob
 hn:List Hnd
 quota:Int
 used:Int
 fin:Int
 val:Nat
theorem Stt.eq_of {a b:Stt} (h1:a.fr=b.fr) (h2:a.hp=b.hp) (h3:a.hn=b.hn) (h4:a.quota=b.quota) (h5:a.used=b.used) (h6:a.fin=b.fin) (h7:a.val=b.val):a=b:=by
 cases a;cases b;simp_all
instance:DecidableEq Stt:=fun a b=>decidable_of_iff (a.fr=b.fr∧a.hp=b.hp∧a.hn=b.hn∧a.quota=b.quota∧a.used=b.used∧a.fin=b.fin∧a.val=b.val) ⟨fun h=>Stt.eq_of h.1 h.2.1 h.2.2.1 h.2.2.2.1 h.2.2.2.2.1 h.2.2.2.2.2.1 h.2.2.2.2.2.2,fun h=>by subst h;exact⟨rfl,rfl,rfl,rfl,rfl,rfl,rfl⟩⟩
instance:Inhabited Stt:=⟨⟨[],[],[],0,0,0,0⟩⟩
def Frm.small (f:Frm):Prop:=f.locs.length≤100000∧f.stk.length≤100000
def frL:Lay Frm where
 k:=4
 R S w cs o:=∃v0 v1,cs=[.int .i64 o.fn,.int .i64 o.pc,v0,v1]∧I64 o.fn∧I64 o.pc∧wrdL.R S w [v0] o.locs∧wrdL.R S w [v1] o.stk
 len:=by rintro S w cs x ⟨v0,v1,rfl,_⟩;rfl
 keep:=by rintro S w w' cs x ⟨v0,v1,rfl,h1,h2,h3,h4⟩ hk;exact⟨v0,v1,rfl,h1,h2,wrdL.keep h3 hk,wrdL.keep h4 hk⟩
 wide:=by rintro S T w cs x ⟨v0,v1,rfl,h1,h2,h3,h4⟩ hk;exact⟨v0,v1,rfl,h1,h2,wrdL.wide h3 hk,wrdL.wide h4 hk⟩
 one:=by
  rintro S w cs x ⟨v0,v1,rfl,h1,h2,h3,h4⟩ u hu
  simp at hu
  rcases hu with rfl|rfl|rfl|rfl
  · rfl
  · rfl
  · exact wrdL.one h3 _ (by simp)
  · exact wrdL.one h4 _ (by simp)
theorem jC {S:Nat→Prop} {w:World} {cs:List Value} {o:Frm} (h:frL.R S w cs o):
 ∃A c B d,cs=[.int .i64 o.fn,.int .i64 o.pc,.slice A o.locs.length c,.slice B o.stk.length d]∧o.locs.length≤c∧c≤maxLen∧o.stk.length≤d∧d≤maxLen∧Sq numL S w A o.locs∧Sq numL S w B o.stk∧I64 o.fn∧I64 o.pc:=by
 obtain⟨v0,v1,rfl,h1,h2,⟨A,c,e0,a1,a2,a3⟩,⟨B,d,e1,b1,b2,b3⟩⟩:=h
 simp only[List.cons.injEq,and_true] at e0 e1
 subst e0 e1
 exact⟨A,c,B,d,rfl,a1,a2,b1,b2,a3,b3,h1,h2⟩
abbrev frsL:Lay (List Frm):=slL frL
abbrev obsL:Lay (List Ob):=slL obL
abbrev hnsL:Lay (List Hnd):=slL hdL
def stL:Lay Stt where
 k:=7
 R S w cs s:=∃v0 v1 v2,cs=[v0,v1,v2,.int .i64 s.quota,.int .i64 s.used,.int .i64 s.fin,.int .u64 (s.val:Int)]∧frsL.R S w [v0] s.fr∧obsL.R S w [v1] s.hp∧hnsL.R S w [v2] s.hn∧I64 s.quota∧I64 s.used∧I64 s.fin∧s.val<B64
 len:=by rintro S w cs x ⟨v0,v1,v2,rfl,_⟩;rfl
 keep:=by rintro S w w' cs x ⟨v0,v1,v2,rfl,h0,h1,h2,h3⟩ hk;exact⟨v0,v1,v2,rfl,frsL.keep h0 hk,obsL.keep h1 hk,hnsL.keep h2 hk,h3⟩
 wide:=by rintro S T w cs x ⟨v0,v1,v2,rfl,h0,h1,h2,h3⟩ hk;exact⟨v0,v1,v2,rfl,frsL.wide h0 hk,obsL.wide h1 hk,hnsL.wide h2 hk,h3⟩
 one:=by
  rintro S w cs x ⟨v0,v1,v2,rfl,h0,h1,h2,h3⟩ u hu
  simp at hu
  rcases hu with rfl|rfl|rfl|rfl|rfl|rfl|rfl
  · exact frsL.one h0 _ (by simp)
  · exact obsL.one h1 _ (by simp)
  · exact hnsL.one h2 _ (by simp)
  all_goals rfl
theorem zu {S:Nat→Prop} {w:World} {cs:List Value} {s:Stt} (h:stL.R S w cs s):
 ∃A0 c0 A1 c1 A2 c2,cs=[.slice A0 s.fr.length c0,.slice A1 s.hp.length c1,.slice A2 s.hn.length c2,.int .i64 s.quota,.int .i64 s.used,.int .i64 s.fin,.int .u64 (s.val:Int)]∧
  s.fr.length≤c0∧c0≤maxLen∧s.hp.length≤c1∧c1≤maxLen∧s.hn.length≤c2∧c2≤maxLen∧Sq frL S w A0 s.fr∧Sq obL S w A1 s.hp∧Sq hdL S w A2 s.hn∧I64 s.quota∧I64 s.used∧I64 s.fin∧s.val<B64:=by
 obtain⟨v0,v1,v2,rfl,⟨A0,c0,e0,a1,a2,a3⟩,⟨A1,c1,e1,b1,b2,b3⟩,⟨A2,c2,e2,d1,d2,d3⟩,h4,h5,h6,h7⟩:=h
 simp only[List.cons.injEq,and_true] at e0 e1 e2
 subst e0 e1 e2
 exact⟨A0,c0,A1,c1,A2,c2,rfl,a1,a2,b1,b2,d1,d2,a3,b3,d3,h4,h5,h6,h7⟩
def Stt.low (s:Stt):Prop:=s.fr.length≤1000∧s.hp.length≤1000∧s.hn.length≤1000∧(∀f∈s.fr,f.small)∧∀o∈s.hp,o.small
theorem qCH:(Try.prog.info? 37).map (fun i=>(i.zero,i.size,i.bytes))=some (some (.agg #[.int .i64 0,.int .i64 0,.slice none 0 0,.slice none 0 0]),4,64):=by kernel_rfl
theorem Row.push {S P0 P1:Nat→Prop} {tag:Nat→Nat} {w w':World} {v v':Value} {css:List (List Value)} {cs:List Value} {O:List Ob} {o:Ob} (h:Row S tag w v css O) (hS:∀b,S b→b<w.heap.size)
 (hob:Obj1 P0 P1 w cs o) (p0:∀b,P0 b→b<w.heap.size∧¬S b) (p1:∀b,P1 b→b<w.heap.size∧¬S b) (p01:∀b,P0 b→¬P1 b)
 (hown:w'.ownsRow 0 37 4 v' (O.length+1) (css.flatten++cs)) (hg:w.grownBy w' v.ownBlock) (hv:v'.ownBlock=v.ownBlock∨v'.ownBlock=some w.heap.size):
 ∃tag',Row (fun b=>S b∨P0 b∨P1 b∨(w.heap.size≤b∧b<w'.heap.size)) tag' w' v' (css++[cs]) (O++[o])∧∀b,S b→tag' b=tag b:=by
 classical
 obtain⟨hl,hown0,hb,hR⟩:=h
 have hT:∃tag':Nat→Nat,(∀b,S b→tag' b=tag b)∧(∀b,P0 b→tag' b=2*O.length+2)∧(∀b,P1 b→tag' b=2*O.length+3)∧tag' w.heap.size=1:=by
  refine⟨fun b=>if S b then tag b else if P0 b then 2*O.length+2 else if P1 b then 2*O.length+3 else 1,fun b hb=>by simp[hb],fun b hb=> ?_,fun b hb=> ?_,?_⟩
  · show(if S b then tag b else if P0 b then _ else _)=_
    rw[if_neg (p0 b hb).2,if_pos hb]
  · show(if S b then tag b else if P0 b then _ else if P1 b then _ else _)=_
    rw[if_neg (p1 b hb).2,if_neg (fun q=>p01 b q hb),if_pos hb]
  · show(if S w.heap.size then _ else if P0 w.heap.size then _ else if P1 w.heap.size then _ else _)=_
    rw[if_neg (fun q=>Nat.lt_irrefl _ (hS _ q)),if_neg (fun q=>Nat.lt_irrefl _ (p0 _ q).1),if_neg (fun q=>Nat.lt_irrefl _ (p1 _ q).1)]
 obtain⟨tag',t1,t2,t3,t4⟩:=hT
 have hne:∀b,b<w.heap.size→v.ownBlock≠some b→w'.heap[b]? =w.heap[b]? :=fun b h1 h2=>hg.block b h1 fun e=>h2 e.symm
 have hns:∀b,¬S b→v.ownBlock≠some b:=fun b h1 e=>h1 (hb b e).1
 refine⟨tag',⟨by simp[hl],by simpa using hown,fun b e=> ?_,fun j x ds e1 e2=> ?_⟩,t1⟩
 · rcases hv with e'|e'
   · rw[e'] at e
     obtain⟨q1,q2⟩:=hb b e
     exact⟨.inl q1,by rw[t1 b q1];exact q2⟩
   · rw[e'] at e
     injection e with e
     subst e
     have hlt:=hown.lt _ e'
     exact⟨.inr (.inr (.inr ⟨zQ _,hlt.2⟩)),t4⟩
 · rcases Nat.lt_or_ge j O.length with hj|hj
   · rw[List.getElem?_append_left hj] at e1
     rw[List.getElem?_append_left (by omega)] at e2
     have q:=hR j x ds e1 e2
     refine(q.keep (w':=w') (fun b hb'=>hne b (hS b hb'.1) fun e=> ?_) fun b hb'=>hne b (hS b hb'.1) fun e=> ?_).wide (fun b _ hb'=>⟨.inl hb'.1,by rw[t1 b hb'.1];exact hb'.2⟩) fun b _ hb'=>⟨.inl hb'.1,by rw[t1 b hb'.1];exact hb'.2⟩
     · have:=(hb b e).2;omega
     · have:=(hb b e).2;omega
   · rw[List.getElem?_append_right hj] at e1
     rw[List.getElem?_append_right (by omega),hl] at e2
     have e0:j-O.length=0:=by
      rcases Nat.eq_zero_or_pos (j-O.length) with h|h
      · exact h
      · rw[List.getElem?_eq_none qT] at e1
        cases e1
     rw[e0] at e1 e2
     simp at e1 e2
     subst e1 e2
     have ej:j=O.length:=by omega
     subst ej
     refine(hob.keep (w':=w') (fun b hb'=>hne b (p0 b hb').1 (hns b (p0 b hb').2)) fun b hb'=>hne b (p1 b hb').1 (hns b (p1 b hb').2)).wide (fun b _ hb'=>⟨.inr (.inl hb'),t2 b hb'⟩) fun b _ hb'=>⟨.inr (.inr (.inl hb')),t3 b hb'⟩
def put4 (w:World) (g i:Nat) (u0 u1 u2 u3:Value):World:=(((w.setCell ⟨g,i,none⟩ u0).setCell ⟨g,i+1,none⟩ u1).setCell ⟨g,i+2,none⟩ u2).setCell ⟨g,i+3,none⟩ u3
theorem jZ (w:World) (g i:Nat) (u0 u1 u2 u3:Value) (b:Nat) (hb:b≠g):(put4 w g i u0 u1 u2 u3).heap[b]? =w.heap[b]? :=by
 unfold put4
 rw[zX _ _ _ _ hb,zX _ _ _ _ hb,zX _ _ _ _ hb,zX _ _ _ _ hb]
theorem qDA {w:World} {base ty g n c j:Nat} {css:List (List Value)} {cs:List Value} (hk:∀ds∈css,ds.length=4) (hj:css[j]? =some cs) (h:w.ownsRow base ty 4 (.slice (some ⟨g,0,none⟩) n c) n css.flatten) (u0 u1 u2 u3:Value):
 (put4 w g (j*4) u0 u1 u2 u3).ownsRow base ty 4 (.slice (some ⟨g,0,none⟩) n c) n (css.set j [u0,u1,u2,u3]).flatten:=by
 have h4:cs.length=4:=hk cs (zT hj)
 have hjl:=(zR.1 hj).1
 have s0:=(h.stored (j*4) u0).1
 rw[show j*4=j*4+0 from rfl,jW hk hj (by omega) u0,Nat.add_zero] at s0
 have k1:∀ds∈css.set j (cs.set 0 u0),ds.length=4:=fun ds hd=>by
  rcases List.mem_or_eq_of_mem_set hd with h|h
  · exact hk ds h
  · rw[h,List.length_set];exact h4
 have j1:(css.set j (cs.set 0 u0))[j]? =some (cs.set 0 u0):=by rw[List.getElem?_set_self hjl]
 have s1:=(s0.stored (j*4+1) u1).1
 rw[jW k1 j1 (by omega) u1,List.set_set] at s1
 have k2:∀ds∈css.set j ((cs.set 0 u0).set 1 u1),ds.length=4:=fun ds hd=>by
  rcases List.mem_or_eq_of_mem_set hd with h|h
  · exact hk ds h
  · rw[h,List.length_set,List.length_set];exact h4
 have j2:(css.set j ((cs.set 0 u0).set 1 u1))[j]? =some ((cs.set 0 u0).set 1 u1):=by rw[List.getElem?_set_self hjl]
 have s2:=(s1.stored (j*4+2) u2).1
 rw[jW k2 j2 (by omega) u2,List.set_set] at s2
 have k3:∀ds∈css.set j (((cs.set 0 u0).set 1 u1).set 2 u2),ds.length=4:=fun ds hd=>by
  rcases List.mem_or_eq_of_mem_set hd with h|h
  · exact hk ds h
  · rw[h,List.length_set,List.length_set,List.length_set];exact h4
 have j3:(css.set j (((cs.set 0 u0).set 1 u1).set 2 u2))[j]? =some (((cs.set 0 u0).set 1 u1).set 2 u2):=by rw[List.getElem?_set_self hjl]
 have s3:=(s2.stored (j*4+3) u3).1
 rw[jW k3 j3 (by omega) u3,List.set_set] at s3
 have e:(((cs.set 0 u0).set 1 u1).set 2 u2).set 3 u3=[u0,u1,u2,u3]:=by
  match cs,h4 with
  |[a,b,c,d],_=>rfl
 rw[e] at s3
 exact s3
theorem Row.put {S P0 P1:Nat→Prop} {tag:Nat→Nat} {w:World} {g n c j:Nat} {css:List (List Value)} {O:List Ob} {o:Ob} {u0 u1 u2 u3:Value} (h:Row S tag w (.slice (some ⟨g,0,none⟩) n c) css O) (hj:j<O.length)
 (hob:Obj1 P0 P1 w [u0,u1,u2,u3] o) (p0:∀b,P0 b→¬S b) (p1:∀b,P1 b→¬S b) (p01:∀b,P0 b→¬P1 b):
 ∃tag',Row (fun b=>S b∨P0 b∨P1 b) tag' (put4 w g (j*4) u0 u1 u2 u3) (.slice (some ⟨g,0,none⟩) n c) (css.set j [u0,u1,u2,u3]) (O.set j o)∧∀b,S b→tag' b=tag b:=by
 classical
 have h4:=h.len4
 obtain⟨hl,hown,hb,hR⟩:=h
 have hT:∃tag':Nat→Nat,(∀b,S b→tag' b=tag b)∧(∀b,P0 b→tag' b=2*j+2)∧(∀b,P1 b→tag' b=2*j+3):=by
  refine⟨fun b=>if S b then tag b else if P0 b then 2*j+2 else 2*j+3,fun b hb=>by simp[hb],fun b hb=> ?_,fun b hb=> ?_⟩
  · show(if S b then tag b else if P0 b then _ else _)=_
    rw[if_neg (p0 b hb),if_pos hb]
  · show(if S b then tag b else if P0 b then _ else _)=_
    rw[if_neg (p1 b hb),if_neg (fun q=>p01 b q hb)]
 obtain⟨tag',t1,t2,t3⟩:=hT
 have hg:=hb g rfl
 have hjl:j<css.length:=by rw[hl];exact hj
 have hjc:css[j]? =some (css[j]'hjl):=zM _
 have en:n=O.length:=by
  obtain⟨g',c',e,-⟩:=jU hown (by omega)
  simp only[Value.slice.injEq] at e
  exact e.2.1
 have hown':(put4 w g (j*4) u0 u1 u2 u3).ownsRow 0 37 4 (.slice (some ⟨g,0,none⟩) n c) n (css.set j [u0,u1,u2,u3]).flatten:=qDA h4 hjc (by rw[en];rw[en] at hown;exact hown) u0 u1 u2 u3
 refine⟨tag',⟨by simp[hl],by rw[List.length_set,←en];exact hown',fun b e=>⟨.inl (hb b e).1,by rw[t1 b (hb b e).1];exact(hb b e).2⟩,fun j' o' cs' h1 h2=> ?_⟩,t1⟩
 rw[List.getElem?_set] at h1 h2
 by_cases e:j=j'
 · subst e
   rw[if_pos rfl,if_pos hj] at h1
   rw[if_pos rfl,if_pos (by omega)] at h2
   injection h1 with h1
   injection h2 with h2
   subst h1 h2
   exact(hob.keep (w':=put4 w g (j*4) u0 u1 u2 u3) (fun b hb'=>jZ w g _ _ _ _ _ b (fun q=>p0 b hb' (by rw[q];exact hg.1))) fun b hb'=>jZ w g _ _ _ _ _ b (fun q=>p1 b hb' (by rw[q];exact hg.1))).wide (fun b _ hb'=>⟨.inr (.inl hb'),t2 b hb'⟩) fun b _ hb'=>⟨.inr (.inr hb'),t3 b hb'⟩
 · rw[if_neg e] at h1 h2
   exact((hR j' o' cs' h1 h2).keep (w':=put4 w g (j*4) u0 u1 u2 u3) (fun b hb'=>jZ w g _ _ _ _ _ b (fun q=>by subst q;have:=hg.2;omega)) fun b hb'=>jZ w g _ _ _ _ _ b (fun q=>by subst q;have:=hg.2;omega)).wide (fun b _ hb'=>⟨.inl hb'.1,by rw[t1 b hb'.1];exact hb'.2⟩) fun b _ hb'=>⟨.inl hb'.1,by rw[t1 b hb'.1];exact hb'.2⟩
def zer4:List Value:=[.int .i64 0,.int .i64 0,.slice none 0 0,.slice none 0 0]
section
variable {P:Program} {ops:Array Oper} {Q:Exit→Go.Act→World→Prop} {L:Oper}
def lastB (ops:Array Oper) (L:Oper):Bool:=
 (List.range ops.size).all (fun j=>L.after.toList.any fun e=>Region.binds .any e && e.on==j) && L.after.toList.all (fun e=>decide (e.on<ops.size)) && L.guard.isNone &&
 (List.range ops.size).all (fun j=>((ops[j]?).map fun o=>o.guard.isNone && o.after.toList.all (fun e=>decide (e.on<j))).getD true)
def lastQ (P:Program) (L:Oper) (Q:Exit→Go.Act→World→Prop):Exit→Go.Act→World→Prop
 | .normal,a,w=>L.wp P a w (fun a' w'=>Q .normal a' w') Q
 | .panic c,a,w=>Q (.panic c) a w
 | .outgrown,a,w=>Q .outgrown a w
 |e,a,w=>Q e a w
theorem qBc (h:lastB ops L=true) {j:Nat} (hj:j<ops.size):∃e∈L.after,Region.binds .any e=true∧e.on=j:=by
 unfold lastB at h
 simp only[Bool.and_eq_true,List.all_eq_true,List.mem_range,List.any_eq_true] at h
 obtain⟨e,he,h1⟩:=h.1.1.1 j hj
 simp only[beq_iff_eq] at h1
 exact⟨e,Array.mem_toList_iff.1 he,h1.1,h1.2⟩
theorem qDI (h:lastB ops L=true) {e:Edge} (he:e∈L.after):e.on<ops.size:=by
 unfold lastB at h
 simp only[Bool.and_eq_true,List.all_eq_true,decide_eq_true_eq] at h
 exact h.1.1.2 e (Array.mem_toList_iff.2 he)
theorem qBb (h:lastB ops L=true):L.guard=none:=by
 unfold lastB at h
 simp only[Bool.and_eq_true,Option.isNone_iff_eq_none] at h
 exact h.1.2
theorem qBa (h:lastB ops L=true) {j:Nat} {o:Oper} (ho:ops[j]? =some o):o.guard=none∧∀e∈o.after,e.on<j:=by
 unfold lastB at h
 simp only[Bool.and_eq_true,List.all_eq_true,List.mem_range] at h
 have:=h.2 j (Array.getElem?_eq_some_iff.1 ho).1
 rw[ho] at this
 simp only[Option.map_some,Option.getD_some,Bool.and_eq_true,Option.isNone_iff_eq_none,List.all_eq_true,decide_eq_true_eq] at this
 exact⟨this.1,fun e he=>this.2 e (Array.mem_toList_iff.2 he)⟩
theorem jk {listed:Array Bool} {j:Nat} (hj:j<listed.size):(listed.push false).getD j true=listed.getD j true:=by
 simp[Array.getElem?_push,Nat.ne_of_lt hj]
theorem jc (listed:Array Bool) (j:Nat):(listed.push false).getD j false=listed.getD j false:=by
 simp only[Array.getD_eq_getD_getElem?,Array.getElem?_push]
 split
 · rename_i e
   subst e
   simp
 · rfl
theorem qAf (listed:Array Bool):(listed.push false).getD listed.size true=false:=by simp
theorem jS {listed:Array Bool} (hs:listed.size=ops.size) {j:Nat} (hj:j<ops.size):j∈Region.ready .any (ops.push L) (listed.push false)↔j∈Region.ready .any ops listed:=by
 rw[mem_ready,mem_ready,jk (by omega),Array.getElem?_push,if_neg (by omega)]
 simp only[jc]
theorem jb (h:lastB ops L=true) {listed:Array Bool} (hs:listed.size=ops.size):ops.size∈Region.ready .any (ops.push L) (listed.push false)↔∀j,j<ops.size→listed.getD j false=true:=by
 rw[mem_ready,←hs,qAf,hs,Array.getElem?_push,if_pos rfl]
 simp only[jc,true_and,Option.some.injEq,exists_eq_left']
 constructor
 · intro h1 j hj
   obtain⟨e,he,h2,rfl⟩:=qBc h hj
   exact h1 e he h2
 · exact fun h1 e he _=>h1 _ (qDI h he)
theorem qCE (h:lastB ops L=true) {listed:Array Bool} (hs:listed.size=ops.size) (hr:Region.ready .any ops listed=[]):∀j,j<ops.size→listed.getD j false=true:=by
 intro j
 induction j using Nat.strongRecOn with
 |ind j ih=>
  intro hj
  cases hl:listed.getD j false with
  |true=>rfl
  |false=>
   have hm:j∈Region.ready .any ops listed:=by
    rw[mem_ready]
    have ho:ops[j]? =some ops[j]:=Array.getElem?_eq_getElem hj
    refine⟨?_,_,ho,fun e he _=> ?_⟩
    · have hj':j<listed.size:=by omega
      simp[hj'] at hl⊢
      exact hl
    · have:=(qBa h ho).2 e he
      exact ih _ this (by omega)
   rw[hr] at hm
   cases hm
theorem qCO {o:Oper} {a:Go.Act} {w:World} {K:Go.Act→World→Prop} (h:o.wp P a w K (lastQ P L Q)):o.wp P a w K Q:=by
 unfold Oper.wp at*
 generalize (execOp a.eval o).run P w=r at*
 cases r with
 |ok n w'=>
  cases n<;>simp only[Oper.upon] at h⊢<;>
   first
    |exact h
    |exact Calls.mono h (fun e w'' he=>by cases e<;>exact he)
 |halt x w'=>cases x<;>simp only[Oper.upon] at h⊢<;>exact h
theorem qAq (h:LetsOut (lastQ P L Q)):LetsOut Q:=h
theorem jj {md:Region.Mode} {listed:Array Bool} {j:Nat} (h:j∈Region.ready md ops listed):j<ops.size:=by
 rw[mem_ready] at h
 obtain⟨-,o,ho,-⟩:=h
 exact(Array.getElem?_eq_some_iff.1 ho).1
theorem jd (h:lastB ops L=true) {fuel:Nat} {listed:Array Bool} {a:Go.Act} {w:World} (hs:listed.size=ops.size) (hr:Region.ready .any ops listed=[]) (hq:L.wp P a w (fun a' w'=>Q .normal a' w') Q):
 wpAny P .any (ops.push L) Q (fuel+1) (listed.push false) a w:=by
 have hall:=qCE h hs hr
 have hin:=(jb h hs).2 hall
 refine⟨fun h0=>(by rw[h0] at hin;cases hin),fun i hi=> ?_⟩
 have hil:=jj hi
 have he:i=ops.size:=by
  rcases Nat.lt_or_ge i ops.size with h1|h1
  · have:=(jS hs h1).1 hi
    rw[hr] at this
    cases this
  · simp at hil;omega
 subst he
 have hL:(ops.push L)[ops.size]? =some L:=by simp
 unfold wpOp
 simp only[hL]
 have hw:Region.wanted L (yielded (ops.push L) a.tmps)=true:=by simp[Region.wanted,qBb h]
 rw[if_pos hw]
 refine .inl (Oper.wp_mono (fun a' w' hq'=> ?_) hq)
 have hr0:Region.ready .any (ops.push L) ((listed.push false).setIfInBounds ops.size true)=[]:=by
  apply List.eq_nil_iff_forall_not_mem.2
  intro j hj
  have hjl:=jj hj
  rw[mem_ready] at hj
  obtain⟨h1,-⟩:=hj
  by_cases e:ops.size=j
  · subst e
    simp[hs] at h1
  · rw[getD_set_ne true e,jk (by simp at hjl;omega)] at h1
    have:=hall j (by simp at hjl;omega)
    have hj':j<listed.size:=by simp at hjl;omega
    simp[hj'] at h1 this
    rw[this] at h1
    cases h1
 cases fuel with
 |zero=>exact⟨hr0,hq'⟩
 |succ fuel=>exact⟨fun _=>hq',by rw[hr0];intro i hi;cases hi⟩
theorem qBl (h:lastB ops L=true):∀(fuel:Nat) (listed:Array Bool) (a:Go.Act) (w:World),listed.size=ops.size→wpAny P .any ops (lastQ P L Q) fuel listed a w→wpAny P .any (ops.push L) Q (fuel+1) (listed.push false) a w:=by
 intro fuel
 induction fuel with
 |zero=>exact fun listed a w hs hq=>jd h hs hq.1 hq.2
 |succ fuel ih=>
  intro listed a w hs hq
  cases hr:Region.ready .any ops listed with
  |nil=>exact jd h hs hr (hq.1 hr)
  |cons r rs=>
   have hnot:¬ops.size∈Region.ready .any (ops.push L) (listed.push false):=fun hin=>by
    have hall:=(jb h hs).1 hin
    have hm:r∈Region.ready .any ops listed:=by rw[hr];exact List.mem_cons_self ..
    have hrl:=jj hm
    rw[mem_ready] at hm
    have:=hall r hrl
    have hr':r<listed.size:=by omega
    have h1:=hm.1
    simp[hr'] at h1 this
    rw[this] at h1
    cases h1
   have hsome:r∈Region.ready .any (ops.push L) (listed.push false):=(jS hs (jj (by rw[hr];exact List.mem_cons_self ..))).2 (by rw[hr];exact List.mem_cons_self ..)
   refine⟨fun h0=>(by rw[h0] at hsome;cases hsome),fun i hi=> ?_⟩
   have hil:=jj hi
   have hi2:i<ops.size:=by
    rcases Nat.lt_or_ge i ops.size with h1|h1
    · exact h1
    · have e:i=ops.size:=by simp at hil;omega
      subst e
      exact absurd hi hnot
   have h1:=hq.2 i ((jS hs hi2).1 hi)
   have ho:ops[i]? =some ops[i]:=Array.getElem?_eq_getElem hi2
   have ho2:(ops.push L)[i]? =some ops[i]:=by rw[Array.getElem?_push,if_neg (by omega)];exact ho
   have hg:=(qBa h ho).1
   unfold wpOp at h1⊢
   simp only[ho] at h1
   simp only[ho2]
   have hw1:Region.wanted ops[i] (yielded ops a.tmps)=true:=by simp[Region.wanted,hg]
   have hw2:Region.wanted ops[i] (yielded (ops.push L) a.tmps)=true:=by simp[Region.wanted,hg]
   rw[if_pos hw1] at h1
   rw[if_pos hw2]
   refine h1.imp (fun h2=>Oper.wp_mono (fun a' w' h3=> ?_) (qCO h2)) fun h2=>⟨h2.1,qAq h2.2⟩
   have e:(listed.push false).setIfInBounds i true=(listed.setIfInBounds i true).push false:=by
    apply Array.ext_getElem?
    intro j
    simp only[Array.getElem?_setIfInBounds,Array.getElem?_push,Array.size_push,Array.size_setIfInBounds]
    by_cases e1:i=j
    · subst e1
      have:i≠listed.size:=by omega
      have h4:i<listed.size:=by omega
      simp[this,h4]
      omega
    · simp[e1]
   rw[e]
   exact ih _ _ _ (by simpa using hs) h3
theorem jr {S:World→Prop} {id:Nat} {all:Array Oper} {a:Go.Act} {w:World} (hm:P.follows .mixedOrders=true) (hall:all=ops.push L) (h:lastB ops L=true) (hS:S w.drew)
 (hw:S w.drew→wpAnyH P .any ops (lastQ P L Q) S ops.size (Array.replicate ops.size false) a w.drew):(Code.region id all true).wp P Q a w:=by
 subst hall
 have e:(Array.replicate ops.size false).push false=Array.replicate (ops.push L).size false:=by
  rw[Array.size_push,Array.replicate_succ]
 have:=qBl h _ _ _ _ (by simp) (wpAny_of_held _ _ _ _ (hw hS))
 rw[e] at this
 refine wp_region_any hm ?_
 rw[Array.size_push] at this⊢
 exact this
def initO:Oper→List Oper→List Oper
 |_,[]=>[]
 |o,b::l=>o::initO b l
def lastO:Oper→List Oper→Oper
 |o,[]=>o
 |_,b::l=>lastO b l
theorem qAx:∀(o:Oper) (l:List Oper),o::l=initO o l++[lastO o l]
 |_,[]=>rfl
 |o,b::l=>by rw[initO,lastO,List.cons_append,←qAx b l]
theorem j6 {S:World→Prop} {id:Nat} {o:Oper} {l:List Oper} {a:Go.Act} {w:World} (hm:P.follows .mixedOrders=true) (h:lastB (initO o l).toArray (lastO o l)=true) (hS:S w.drew)
 (hw:S w.drew→wpAnyH P .any (initO o l).toArray (lastQ P (lastO o l) Q) S (initO o l).toArray.size (Array.replicate (initO o l).toArray.size false) a w.drew):(Code.region id (o::l).toArray true).wp P Q a w:=
 jr (ops:=(initO o l).toArray) (L:=lastO o l) hm (by rw[qAx o l];simp) h hS hw
theorem zn {md:Region.Mode} {S:World→Prop} {fuel:Nat} {listed:Array Bool} {a:Go.Act} {w:World} (h:∀X,X=w→wpAnyH P md ops Q S fuel listed a X):wpAnyH P md ops Q S fuel listed a w:=h w rfl
end
theorem qAh:(Try.prog.info? 25).map (fun i=>(i.zero,i.size,i.bytes))=some (some (.int .u64 0),1,8):=by kernel_rfl
theorem qAH {S:Nat→Prop} {w:World}:∀{css:List (List Value)} {xs:List Nat},css.length=xs.length→(∀(j:Nat) (x:Nat) (cs:List Value),xs[j]? =some x→css[j]? =some cs→numL.R S w cs x)→css.flatten=Ns xs
 |[],[],_,_=>rfl
 |[],_::_,h,_=>by simp at h
 |_::_,[],h,_=>by simp at h
 |c::css,x::xs,h,hR=>by
  have h0:=hR 0 x c rfl rfl
  have ih:=qAH (css:=css) (xs:=xs) (by simpa using h) fun j y cs h1 h2=>hR (j+1) y cs (by simpa using h1) (by simpa using h2)
  rw[List.flatten_cons,ih,h0.1]
  rfl
theorem j4 (A:Option Addr) (n c:Nat) (xs:List Nat) (w:World) (hl:xs.length=n) (hR:Sq numL (·<w.heap.size) w A xs) (hn:n≤1000000):
 Calls Try.prog 14 #[.slice A n c] w fun e w'=>∃v,e= .returned v∧w'.ownsRow w.heap.size 25 1 v n (Ns xs)∧Below w.heap.size w w':=by
 have qq:∀(w:World) (a:Option Addr) (n c n' c':Nat),(binOp .eql 32 (.slice a n c) (.slice none n' c')).run Try.prog w= .ok (.bool a.isNone) w:=fun w a n c n' c'=>Lib.run_eql_slice_nil w _ _ a n c n' c' Try.underlying32
 have HL:=zL hl
 have HR:=zL hR
 rcases A with _|a
 · have h0:xs=[]:=by
    cases xs with
    |nil=>rfl
    |cons t ts=>obtain⟨a,e,-⟩:=hR (by simp);cases e
   subst h0
   obtain rfl:n=0:=by simpa using hl.symm
   clear hl hR
   go_enter Try.func14,Try.ntmps14
   go_wp2_with fail
   exact zK
 · clear hl hR
   go_enter Try.func14,Try.ntmps14
   go_wp2_with (at_builtin
                refine zt numL _ rfl (.tmp 5) (.tmp 6) 32 25 rfl (.int .u64 0) 8 Try.underlying32 qAh rfl qY (by omega) w.heap.size (.slice (some ⟨w.heap.size,0,none⟩) 0 0) rfl (jN w _ _) a n c xs rfl HL.out (·<w.heap.size) (HR.out.keep fun b hb=>zd w _ b hb) (by omega) (by simp) ?_
                intro v2 w2 css hcl hown2 hRR hg2
                rw[qAH (hcl.trans HL.out.symm) hRR] at hown2
                have HO2:=zL hown2
                have HB2:=zL (((zS w.heap.size w).alloc (zQ _) (.cells #[] 25)).grown hg2 (by simp) (fun i hi=>by simp[Value.ownBlock] at hi;omega))
                clear hown2 hRR hg2 hcl)
   go_ret
   exact⟨_,rfl,HO2.out,HB2.out⟩
theorem qB8 (A:Option Addr) (n c:Nat) (xs:List Nat) (w:World) (hl:xs.length=n) (hR:Byt (·<w.heap.size) w A xs) (hn:n≤1000000):
 Calls Try.prog 15 #[.slice A n c] w fun e w'=>∃v,e= .returned v∧w'.ownsRow w.heap.size 5 1 v n (Bs xs)∧Below w.heap.size w w':=by
 have qq:∀(w:World) (a:Option Addr) (n c n' c':Nat),(binOp .eql 35 (.slice a n c) (.slice none n' c')).run Try.prog w= .ok (.bool a.isNone) w:=fun w a n c n' c'=>Lib.run_eql_slice_nil w _ _ a n c n' c' Try.underlying35
 have HL:=zL hl
 have HR:=zL hR
 rcases A with _|a
 · have h0:xs=[]:=by
    cases xs with
    |nil=>rfl
    |cons t ts=>obtain⟨a,e,-⟩:=hR (by simp);cases e
   subst h0
   obtain rfl:n=0:=by simpa using hl.symm
   clear hl hR
   go_enter Try.func15,Try.ntmps15
   go_wp2_with fail
   exact zK
 · clear hl hR
   go_enter Try.func15,Try.ntmps15
   go_wp2_with (at_builtin
                refine zg _ rfl (.tmp 5) (.tmp 6) rfl w.heap.size (.slice (some ⟨w.heap.size,0,none⟩) 0 0) 0 [] rfl (qCZ w) (some a) n c xs rfl HL.out (·<w.heap.size)
                 (HR.out.keep fun b hb=>zd w _ b hb) (by omega) (by simp) ?_
                intro v1 w1 hown1 hg1 _
                have HO2:=zL (show w1.ownsRow w.heap.size 5 1 v1 n (Bs xs) from by simpa using hown1)
                have HB2:=zL (((zS w.heap.size w).alloc (zQ _) (.cells #[] 5)).grown hg1 (by simp) (fun i hi=>by simp[Value.ownBlock] at hi;omega))
                clear hown1 hg1)
   go_ret
   exact⟨_,rfl,HO2.out,HB2.out⟩
def Rw {α:Type} (L:Lay α) (ty base:Nat) (w:World) (v:Value) (css:List (List Value)) (xs:List α):Prop:=
 css.length=xs.length∧w.ownsRow base ty 4 v xs.length css.flatten∧
  ∀(j:Nat) (x:α) (cs:List Value),xs[j]? =some x→css[j]? =some cs→L.R (fun b=>base≤b∧b<w.heap.size∧v.ownBlock≠some b) w cs x
theorem Rw.keep {α:Type} {L:Lay α} {ty base:Nat} {w w':World} {v:Value} {css:List (List Value)} {xs:List α} (h:Rw L ty base w v css xs) (hk:∀b,base≤b→b<w.heap.size→w'.heap[b]? =w.heap[b]?) (hs:w.heap.size≤w'.heap.size):Rw L ty base w' v css xs:=
 ⟨h.1,zf h.2.1 fun b e=>hk b (h.2.1.lt b e).1 (h.2.1.lt b e).2,fun j x cs h1 h2=>L.wide (L.keep (h.2.2 j x cs h1 h2) fun b hb=>hk b hb.1 hb.2.1) fun b hb=>⟨hb.1,zP hb.2.1 hs,hb.2.2⟩⟩
theorem Rw.nil {α:Type} (L:Lay α) (ty base:Nat) (w:World):Rw L ty base w (.slice none 0 0) [] ([]:List α):=⟨rfl,World.ownsRow_nil _ _ _ _,fun j x cs h=>by simp at h⟩
theorem Rw.push {α:Type} {L:Lay α} {ty base:Nat} {w w2:World} {v v2:Value} {css:List (List Value)} {cs:List Value} {xs:List α} {x:α} (h:Rw L ty base w v css xs)
 (hR:L.R (fun b=>base≤b∧b<w.heap.size∧v.ownBlock≠some b) w cs x) (hown:w2.ownsRow base ty 4 v2 (xs.length+1) (css.flatten++cs)) (hg:w.grownBy w2 v.ownBlock) (hv:v2.ownBlock=v.ownBlock∨v2.ownBlock=some w.heap.size):
 Rw L ty base w2 v2 (css++[cs]) (xs++[x]):=by
 obtain⟨hl,hown0,hRs⟩:=h
 have hs:=hg.size
 have key:∀(y:α) (ds:List Value),L.R (fun b=>base≤b∧b<w.heap.size∧v.ownBlock≠some b) w ds y→L.R (fun b=>base≤b∧b<w2.heap.size∧v2.ownBlock≠some b) w2 ds y:=fun y ds hy=>
  L.wide (L.keep hy fun b hb=>hg.block b hb.2.1 fun e=>hb.2.2 e.symm) fun b hb=>⟨hb.1,zP hb.2.1 hs,fun e=>by
   rcases hv with q|q
   · exact hb.2.2 (q.symm.trans e)
   · rw[q] at e;injection e with e;have:=hb.2.1;omega⟩
 refine⟨by simp[hl],by simpa using hown,fun j y ds e1 e2=> ?_⟩
 rcases Nat.lt_or_ge j xs.length with hj|hj
 · rw[List.getElem?_append_left hj] at e1
   rw[List.getElem?_append_left (by omega)] at e2
   exact key y ds (hRs j y ds e1 e2)
 · rw[List.getElem?_append_right hj] at e1
   rw[List.getElem?_append_right (by omega),hl] at e2
   have e0:j-xs.length=0:=by
    rcases Nat.eq_zero_or_pos (j-xs.length) with h|h
    · exact h
    · rw[List.getElem?_eq_none qT] at e1
      cases e1
   rw[e0] at e1 e2
   simp at e1 e2
   subst e1 e2
   exact key _ _ hR
theorem Rw.sl {α:Type} {L:Lay α} {ty base:Nat} {w:World} {v:Value} {css:List (List Value)} {xs:List α} (h4:L.k=4) (h:Rw L ty base w v css xs):(slL L).R (fun b=>base≤b∧b<w.heap.size) w [v] xs:=
 qC9 h.1 (by rw[h4];exact h.2.1) (fun j x cs h1 h2=>L.wide (h.2.2 j x cs h1 h2) fun b hb=>⟨hb.1,hb.2.1⟩) fun b h1 h2=>⟨h1,h2⟩
theorem Rw.shape {α:Type} {L:Lay α} {ty base:Nat} {w:World} {v:Value} {css:List (List Value)} {xs:List α} (h:Rw L ty base w v css xs):∃A c,v= .slice A xs.length c:=by
 rcases h.2.1.2 with⟨rfl,h0⟩|⟨g,cap,cur,rfl,-⟩
 · exact⟨none,0,by rw[h0]⟩
 · exact⟨_,_,rfl⟩
theorem qBV {w:World} {base:Nat} {ty:TypeId} {v:Value} {n:Nat} {cs:List Value} (h:w.ownsRow base ty 1 v n cs):Part (fun b=>v.ownBlock=some b) w ty v cs:=by
 have hl:cs.length=n:=by have:=h.1;omega
 rcases h.2 with⟨rfl,rfl⟩|⟨g,cap,cur,rfl,hb,hg,hnc,hcm,hcs,ht⟩
 · obtain rfl:cs=[]:=z7 hl
   exact Part.nil _ _ _
 · refine⟨some ⟨g,0,none⟩,cap,by rw[hl],by omega,hcm,fun _=>⟨g,cur,rfl,rfl,hg,fun i u hu=> ?_⟩⟩
   have hi:=(zR.1 hu).1
   rw[←ht,List.getElem?_take_of_lt (by omega)] at hu
   simpa using hu
theorem qAC {w:World} {base:Nat} {v:Value} {n:Nat} {xs:List Nat} (h:w.ownsRow base 25 1 v n (Ns xs)) (hx:∀x∈xs,x<B64):wrdL.R (fun b=>base≤b∧b<w.heap.size) w [v] xs:=
 wrdL.wide ((qBV h).words hx) fun b hb=>h.lt b hb
theorem qCy {w:World} {base:Nat} {v:Value} {n:Nat} {xs:List Nat} (h:w.ownsRow base 5 1 v n (Bs xs)) (hx:∀x∈xs,x<256):bytL.R (fun b=>base≤b∧b<w.heap.size) w [v] xs:=
 bytL.wide ((qBV h).bytes hx) fun b hb=>h.lt b hb
theorem qCM {α:Type} {L:Lay α} {w wr V X w2:World} {N n0 k i ty T:Nat} {v v2:Value} {css:List (List Value)} {cs:List Value} {xs:List α} {x:α} {ob:Obj} {oc:Array Value}
 (hN:N=w.heap.size) (hB:Below N w wr) (h3:N+3≤n0) (h0:n0≤wr.heap.size) (ho:Blk wr (N+1+1) T oc) (hV:Below wr.heap.size wr V) (hX:Below V.heap.size V X)
 (hR:L.R (fun b=>V.heap.size≤b∧b<X.heap.size) X cs x) (hr:Rw L ty n0 wr v css (xs.take k)) (hk:(xs.take k).length=k) (hx:xs[k]? =some x)
 (hown:w2.ownsRow n0 ty 4 v2 (k+1) (css.flatten++cs)) (hg:(X.alloc ob).grownBy w2 v.ownBlock) (hv:v2.ownBlock=v.ownBlock∨v2.ownBlock=some (X.alloc ob).heap.size):
 Below N w (w2.setCell ⟨N+1+1,i,none⟩ v2)∧n0≤(w2.setCell ⟨N+1+1,i,none⟩ v2).heap.size∧(∀b,b<n0→b≠N+1+1→(w2.setCell ⟨N+1+1,i,none⟩ v2).heap[b]? =wr.heap[b]?)∧
  Blk (w2.setCell ⟨N+1+1,i,none⟩ v2) (N+1+1) T (oc.setIfInBounds i v2)∧Rw L ty n0 (w2.setCell ⟨N+1+1,i,none⟩ v2) v2 (css++[cs]) (xs.take (k+1)):=by
 have hVs:=hV.size
 have hXs:=hX.size
 have sa:(X.alloc ob).heap.size=X.heap.size+1:=by simp
 have s2:X.heap.size+1≤w2.heap.size:=by have:=hg.size;omega
 have sz:(w2.setCell ⟨N+1+1,i,none⟩ v2).heap.size=w2.heap.size:=by simp[World.setCell]
 have hVa:Below wr.heap.size wr (X.alloc ob):=(hV.trans (hX.mono (by omega))).alloc (by omega) _
 have hra:Rw L ty n0 (X.alloc ob) v css (xs.take k):=hr.keep (fun b _ hb=>hVa.block b hb) (by omega)
 have hob:∀b,v.ownBlock=some b→n0≤b∧b<wr.heap.size:=fun b e=>hr.2.1.lt b e
 have hR':L.R (fun b=>n0≤b∧b<(X.alloc ob).heap.size∧v.ownBlock≠some b) (X.alloc ob) cs x:=
  L.wide (L.keep hR fun b hb=>zd X ob b hb.2) fun b hb=>⟨by omega,by omega,fun e=>by have:=(hob b e).2;omega⟩
 rw[show k+1=(xs.take k).length+1 by rw[hk]] at hown
 have hrow:=hra.push hR' hown hg hv
 have hk2:∀b,b<n0→w2.heap[b]? =wr.heap[b]? :=fun b hb=>(hg.block b (by omega) fun e=>by have:=(hob b e.symm).1;omega).trans (hVa.block b (by omega))
 have ht:xs.take k++[x]=xs.take (k+1):=by
  obtain⟨h,rfl⟩:=zR.1 hx
  rw[za h]
 rw[ht] at hrow
 have hBw2:Below N w w2:=hB.trans ⟨hg.os.trans hVa.os,hg.tape.trans hVa.tape,hg.output.trans hVa.output,by omega,fun b hb=>hk2 b (by omega)⟩
 refine⟨hBw2.setCell (by show N≤N+1+1;omega) _,by omega,fun b hb hne=>(zX _ _ _ _ hne).trans (hk2 b hb),?_,?_⟩
 · have h3:Blk w2 (N+1+1) T oc:=(hk2 (N+1+1) (by omega)).trans ho
   exact h3.set i v2
 · exact hrow.keep (fun b hb _=>zX _ _ _ _ fun(e:b=N+1+1)=>by omega) (by omega)
theorem jh (w:World) {ops:Array Oper} {o:Oper} {a:Act} {K:Act→World→Prop} {Q:Exit→Act→World→Prop} {E:Prop} (hgd:o.guard=none) (s x:Operand)
 (ho:o.op= .call {callee:= .builtin .append,args:= #[s,x],argTypes:= #[35,35]})
 (base:Nat) (v:Value) (n:Nat) (xs:List Nat) (hs:a.eval s=v) (hown:w.ownsRow base 5 1 v n (Bs xs)) (A:Option Addr) (m c:Nat) (ys:List Nat) (hx:a.eval x= .slice A m c) (hm:ys.length=m)
 (S:Nat→Prop) (hy:Byt S w A ys) (hbig:n+m≤140737488355328) (hbase:base≤w.heap.size)
 (h:∀v' w',w'.ownsRow base 5 1 v' (n+m) (Bs (xs++ys))→w.grownBy w' v.ownBlock→(v'.ownBlock=v.ownBlock∨v'.ownBlock=some w.heap.size)→K (a.put o.dst v') w'):
 if Region.wanted o (yielded ops a.tmps)=true then Oper.wp Try.prog o a w K Q else E:=by
 have hw:Region.wanted o (yielded ops a.tmps)=true:=by simp[Region.wanted,hgd]
 rw[if_pos hw]
 obtain⟨v',w',hrun,h2,h3,h4⟩:=jT w base o.type v n xs hown A m c ys hm S hy hbig hbase
 unfold Oper.wp execOp
 simp only[ho,resolve,invoke,builtin,Sem.run_bind,Sem.run_pure,Result.andThen_ok,List.map_toArray,List.map_cons,List.map_nil,hs,hx,hrun]
 exact h v' w' h2 h3 h4
theorem qCF (s x:Operand) (t:TypeId) {d:Option Tmp} {ty:TypeId} {p:String} {af:Array Edge} {g:Option (Nat×Bool)} {y:Nat→Option Bool} {inst:Decidable (Region.wanted ⟨d,.call ⟨.builtin .append,#[s,x],#[t,t]⟩,ty,p,af,g⟩ y=true)} {W E:Prop}
 (h: @ite Prop (Region.wanted ⟨d,.call ⟨.builtin .append,#[s,x],#[t,t]⟩,ty,p,af,g⟩ y=true) inst W E): @ite Prop (Region.wanted ⟨d,.call ⟨.builtin .append,#[s,x],#[t,t]⟩,ty,p,af,g⟩ y=true) inst W E:=h
theorem jo (f:Nat) {d:Option Tmp} {ar:Array Operand} {at':Array TypeId} {ty:TypeId} {p:String} {af:Array Edge} {g:Option (Nat×Bool)} {y:Nat→Option Bool} {inst:Decidable (Region.wanted ⟨d,.call ⟨.value (.func f),ar,at'⟩,ty,p,af,g⟩ y=true)} {W E:Prop}
 (h: @ite Prop (Region.wanted ⟨d,.call ⟨.value (.func f),ar,at'⟩,ty,p,af,g⟩ y=true) inst W E): @ite Prop (Region.wanted ⟨d,.call ⟨.value (.func f),ar,at'⟩,ty,p,af,g⟩ y=true) inst W E:=h
theorem qBW {w:World} {base g ty k:Nat} (h:Blk w g ty #[]) (hb:base≤g):w.ownsRow base ty k (.slice (some ⟨g,0,none⟩) 0 0) 0 []:=⟨by simp,.inr ⟨g,0,#[],rfl,hb,h,zQ _,by simp[maxLen],by simp,by simp⟩⟩
theorem zz (w:World) {ops:Array Oper} {o:Oper} {a:Go.Act} {K:Go.Act→World→Prop} {Q:Exit→Go.Act→World→Prop} {X:Prop} (hgd:o.guard=none) (s x:Operand)
 (ho:o.op= .call {callee:= .builtin .append,args:= #[s,x],argTypes:= #[32,32]}) (base gx:Nat) (hs:a.eval s= .slice (some ⟨gx,0,none⟩) 0 0) (hb:Blk w gx 25 #[]) (hbase:base≤gx)
 (A:Option Addr) (m c:Nat) (xs:List Nat) (hx:a.eval x= .slice A m c) (hl:xs.length=m) (S:Nat→Prop) (hS:Sq numL S w A xs) (hm:m≤1000000)
 (h:∀A' c' w',w'.ownsRow base 25 1 (.slice A' m c') m (Ns xs)→w.grownBy w' (some gx)→(∀b,(Value.slice A' m c').ownBlock=some b→b=gx∨w.heap.size≤b)→K (a.put o.dst (.slice A' m c')) w'):
 if Region.wanted o (yielded ops a.tmps)=true then Oper.wp Try.prog o a w K Q else X:=by
 have hw:Region.wanted o (yielded ops a.tmps)=true:=by simp[Region.wanted,hgd]
 rw[if_pos hw]
 have hown:w.ownsRow base 25 1 (.slice (some ⟨gx,0,none⟩) 0 0) 0 []:=qBW hb hbase
 obtain⟨i0,hi0,hz0,hz1,hz2⟩:=info_parts qAh
 have key:∃v' w',(Builtin.append_ #[32,32] o.type #[.slice (some ⟨gx,0,none⟩) 0 0,.slice A m c]).run Try.prog w= .ok v' w'∧w'.ownsRow base 25 1 v' m (Ns xs)∧w.grownBy w' (some gx)∧(∀b,v'.ownBlock=some b→b=gx∨w.heap.size≤b)∧∃A' c',v'= .slice A' m c':=by
  rcases A with _|ad
  · obtain rfl:xs=[]:=by
     cases xs with
     |nil=>rfl
     |cons t ts=>obtain⟨_,e,-⟩:=hS (by simp);cases e
    obtain rfl:m=0:=by simpa using hl.symm
    have hc:c=c:=rfl
    refine⟨.slice (some ⟨gx,0,none⟩) 0 0,w,?_,hown,⟨rfl,rfl,rfl,zQ _,fun _ _ _=>rfl⟩,fun b hb=> .inl (by simp[Value.ownBlock] at hb;exact hb.symm),_,_,rfl⟩
    have ht:=run_underlying (P:=Try.prog) (w:=w) Try.underlying32
    simp[Builtin.append_,ht,sizeOf,typeInfo,hi0,Builtin.lenOf,Builtin.firstCells,storeCells]
  · obtain⟨css,hcl,hR,hcc,hone,hfl⟩:=qC4 qY hS
    have e:css.flatten=Ns xs:=qAH hcl hR
    rw[e] at hcc hone
    obtain⟨v',w',hrun,h2,h3,_,h5⟩:=run_append_own_at (P:=Try.prog) w base 32 o.type 25 i0 (.int .u64 0) 1 8 Try.underlying32 hi0 hz0 hz1 hz2 rfl (by omega) _ 0 [] hown ad m c (Ns xs) (by rw[qAM,hl];omega) hcc hone
     (by simp only[maxLen];omega) (by omega) (by have:=hb.lt;omega)
    rw[Nat.zero_add,List.nil_append] at h2
    refine⟨v',w',hrun,h2,h3,fun b hb=> ?_,?_⟩
    · rcases h5 with e|e
      · rw[e] at hb;simp[Value.ownBlock] at hb;exact .inl hb.symm
      · rw[e] at hb;injection hb with hb;exact .inr (by omega)
    rcases h2.2 with⟨rfl,h0⟩|⟨g,cap,cur,rfl,_⟩
    · exact⟨none,0,by rw[h0]⟩
    · exact⟨_,_,rfl⟩
 obtain⟨v',w',hrun,h2,h3,h6,A',c',rfl⟩:=key
 unfold Oper.wp execOp
 simp only[ho,resolve,invoke,builtin,Sem.run_bind,Sem.run_pure,Result.andThen_ok,List.map_toArray,List.map_cons,List.map_nil,hs,hx,hrun]
 exact h _ _ w' h2 h3 h6
theorem qAE (w:World) {ops:Array Oper} {o:Oper} {a:Go.Act} {K:Go.Act→World→Prop} {Q:Exit→Go.Act→World→Prop} {X:Prop} (hgd:o.guard=none) (s x:Operand)
 (ho:o.op= .call {callee:= .builtin .append,args:= #[s,x],argTypes:= #[35,35]}) (base gx:Nat) (hs:a.eval s= .slice (some ⟨gx,0,none⟩) 0 0) (hb:Blk w gx 5 #[]) (hbase:base≤gx)
 (A:Option Addr) (m c:Nat) (xs:List Nat) (hx:a.eval x= .slice A m c) (hl:xs.length=m) (S:Nat→Prop) (hS:Byt S w A xs) (hm:m≤1000000)
 (h:∀A' c' w',w'.ownsRow base 5 1 (.slice A' m c') m (Bs xs)→w.grownBy w' (some gx)→(∀b,(Value.slice A' m c').ownBlock=some b→b=gx∨w.heap.size≤b)→K (a.put o.dst (.slice A' m c')) w'):
 if Region.wanted o (yielded ops a.tmps)=true then Oper.wp Try.prog o a w K Q else X:=by
 have hown:w.ownsRow base 5 1 (.slice (some ⟨gx,0,none⟩) 0 0) 0 (Bs []):=qBW hb hbase
 refine jh w hgd s x ho base _ 0 [] hs hown A m c xs hx hl S hS (by omega) (by have:=hb.lt;omega) ?_
 intro v' w' h2 h3 h5
 rw[Nat.zero_add,List.nil_append] at h2
 have h6:∀b,v'.ownBlock=some b→b=gx∨w.heap.size≤b:=fun b hb=>by
  rcases h5 with e|e
  · rw[e] at hb;simp[Value.ownBlock] at hb;exact .inl hb.symm
  · rw[e] at hb;injection hb with hb;exact .inr (by omega)
 have hv:∃A' c',v'= .slice A' m c':=by
  rcases h2.2 with⟨rfl,h0⟩|⟨g,cap,cur,rfl,_⟩
  · exact⟨none,0,by rw[h0]⟩
  · exact⟨_,_,rfl⟩
 obtain⟨A',c',rfl⟩:=hv
 exact h _ _ w' h2 h3 h6
end Go.Proofs.Ytconajaecpgjgaa
