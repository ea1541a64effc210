/-
Ho Hn Gs Im Iun Pkm Km Nvr Stp Own Kpt Iss Le Wid
-/
import Derived.Test.YtgdbhanhmenmfaaGreatQ01
import Derived.Laws.OwnMore
import Derived.Deep.RegionLaw
import Init
set_option linter.unusedSimpArgs false
set_option linter.unusedVariables false
set_option maxHeartbeats 1000000
namespace Go.Proofs.YtgdbhanhmenmfaaGreat
open Go.RowKit
variable {A:Option Addr}{E:Prop}{P P0 P1 S:Nat→Prop}{a b:Int}{bs:List Nat}{c:Nat}{cs:List Value}{css:List (List Value)}{j k:Nat}{most:Int}{n:Nat}{op:Int}{pre:List (List Nat)}{r rest:List Nat}{tag:Nat→Nat}{ty:TypeId}{v:Value}{w w':World}{x:Nat}{xs:List Nat}{xss:List (List Nat)}{y:Nat}
structure Ob where
 kind:Int
 n:Int
 words:List Nat
 bytes:List Nat
theorem Ob.eq_of {a b:Ob} (h1:a.kind=b.kind) (h2:a.n=b.n) (h3:a.words=b.words) (h4:a.bytes=b.bytes):a=b:=by
 cases a;cases b;simp_all
instance:DecidableEq Ob:=fun a b=>decidable_of_iff (a.kind=b.kind∧a.n=b.n∧a.words=b.words∧a.bytes=b.bytes) ⟨fun h=>Ob.eq_of h.1 h.2.1 h.2.2.1 h.2.2.2,fun h=>by subst h;exact⟨rfl,rfl,rfl,rfl⟩⟩
instance:Inhabited Ob:=⟨⟨0,0,[],[]⟩⟩
def ob0:Ob:=⟨0,0,[],[]⟩
def Ob.cost (o:Ob):Int:=16+8*(o.words.length:Int)+(o.bytes.length:Int)
def Ob.small (o:Ob):Prop:=o.words.length≤100000∧o.bytes.length≤100000
def Ns (xs:List Nat):List Value:=xs.map fun x:Nat=>Value.int .u64 (x:Int)
theorem qBz (xs:List Nat):(Ns xs).length=xs.length:=by simp[Ns]
theorem qHB (h:xs[j]? =some x):(Ns xs)[j]? =some (.int .u64 (x:Int)):=by simp[Ns,h]
theorem qOt (xs ys:List Nat):Ns (xs++ys)=Ns xs++Ns ys:=by simp[Ns]
theorem qOs (xs:List Nat):∀u∈Ns xs,u.oneCell'=true:=by
 intro u hu;obtain⟨x,_,rfl⟩:=List.mem_map.1 hu
 rfl
theorem Ns_set (xs:List Nat) (k x:Nat):(Ns xs).set k (.int .u64 (x:Int))=Ns (xs.set k x):=by simp[Ns,List.map_set]
abbrev wrdL:Lay (List Nat):=slL numL
def bytL:Lay (List Nat) where
 k:=1
 R S w cs xs:=∃A c,cs=[.slice A xs.length c]∧xs.length≤c∧c≤maxLen∧Byt S w A xs∧∀x∈xs,x<256
 len:=by rintro S w cs x ⟨A,c,rfl,_⟩;rfl
 keep:=by rintro S w w' cs x ⟨A,c,rfl,h1,h2,h3,h4⟩ hk;exact⟨A,c,rfl,h1,h2,h3.keep hk,h4⟩
 wide:=by rintro S T w cs x ⟨A,c,rfl,h1,h2,h3,h4⟩ hk;exact⟨A,c,rfl,h1,h2,h3.wide hk,h4⟩
 one:=by rintro S w cs x ⟨A,c,rfl,_⟩ u hu;simp at hu;subst hu;rfl
def obL:Lay Ob where
 k:=4
 R S w cs o:=∃v0 v1,cs=[.int .i64 o.kind,.int .i64 o.n,v0,v1]∧I64 o.kind∧I64 o.n∧wrdL.R S w [v0] o.words∧bytL.R S w [v1] o.bytes
 len:=by rintro S w cs x ⟨v0,v1,rfl,_⟩;rfl
 keep:=by rintro S w w' cs x ⟨v0,v1,rfl,h1,h2,h3,h4⟩ hk;exact⟨v0,v1,rfl,h1,h2,wrdL.keep h3 hk,bytL.keep h4 hk⟩
 wide:=by rintro S T w cs x ⟨v0,v1,rfl,h1,h2,h3,h4⟩ hk;exact⟨v0,v1,rfl,h1,h2,wrdL.wide h3 hk,bytL.wide h4 hk⟩
 one:=by
  rintro S w cs x ⟨v0,v1,rfl,h1,h2,h3,h4⟩ u hu;simp at hu;rcases hu with rfl|rfl|rfl|rfl
  · rfl
  · rfl
  · exact wrdL.one h3 _ (by simp)
  · exact bytL.one h4 _ (by simp)
theorem qC7 {o:Ob} (h:obL.R S w cs o):
 ∃A c B d,cs=[.int .i64 o.kind,.int .i64 o.n,.slice A o.words.length c,.slice B o.bytes.length d]∧o.words.length≤c∧c≤maxLen∧o.bytes.length≤d∧d≤maxLen∧Sq numL S w A o.words∧Byt S w B o.bytes∧(∀x∈o.bytes,x<256)∧I64 o.kind∧I64 o.n:=by
 obtain⟨v0,v1,rfl,h1,h2,⟨A,c,e0,a1,a2,a3⟩,⟨B,d,e1,b1,b2,b3,b4⟩⟩:=h;simp only[List.cons.injEq,and_true] at e0 e1;subst e0 e1;exact⟨A,c,B,d,rfl,a1,a2,b1,b2,a3,b3,b4,h1,h2⟩
theorem add_off (g i j:Nat):(⟨g,i,none⟩:Addr).add j=⟨g,i+j,none⟩:=by unfold Addr.add;split<;>simp_all
theorem add_zero (g j:Nat):(⟨g,0,none⟩:Addr).add j=⟨g,j,none⟩:=by rw[add_off,Nat.zero_add]
theorem qFn (h:Sq numL S w A xs) (hk:xs[k]? =some x):∃a,A=some a∧S a.block∧w.cell? (a.add k)=some (.int .u64 (x:Int))∧x<B64:=by
 obtain⟨a,cs,e,hs,hc,rfl,hb⟩:=h.at hk;exact⟨a,e,hs,qB9 rfl (hc 0 _ rfl),hb⟩
theorem qEP (h:Sq numL S w A xs):∀x∈xs,x<B64:=fun x hx=>by
 obtain⟨j,hj⟩:=qBk.1 hx;obtain⟨a,e,hs,hc,hb⟩:=qFn h hj;exact hb
def Part (P:Nat→Prop) (w:World) (ty:TypeId) (v:Value) (cs:List Value):Prop:=
 ∃A c,v= .slice A cs.length c∧cs.length≤c∧c≤maxLen∧(0<cs.length→∃(g:Nat) (cur:Array Value),A=some ⟨g,0,none⟩∧P g∧Blk w g ty cur∧∀(i:Nat) (u:Value),cs[i]? =some u→cur[i]? =some u)
theorem Part.nil (P:Nat→Prop) (w:World) (ty:TypeId):Part P w ty (.slice none 0 0) []:=⟨none,0,rfl,qBL _,by simp[maxLen],fun h=>absurd h (by simp)⟩
theorem Part.keep (h:Part P w ty v cs) (hk:∀b,P b→w'.heap[b]? =w.heap[b]?):Part P w' ty v cs:=by
 obtain⟨A,c,e,h1,h2,h3⟩:=h;refine⟨A,c,e,h1,h2,fun hp=> ?_⟩;obtain⟨g,cur,e1,hP,hb,hc⟩:=h3 hp;exact⟨g,cur,e1,hP,(hk g hP).trans hb,hc⟩
theorem Part.wide {Q:Nat→Prop} (h:Part P w ty v cs) (hk:∀b,b<w.heap.size→P b→Q b):Part Q w ty v cs:=by
 obtain⟨A,c,e,h1,h2,h3⟩:=h;refine⟨A,c,e,h1,h2,fun hp=> ?_⟩;obtain⟨g,cur,e1,hP,hb,hc⟩:=h3 hp;exact⟨g,cur,e1,hk g hb.lt hP,hb,hc⟩
theorem Part.of_own {base:Nat} (h:w.ownsRow base ty 1 v n cs):Part (fun b=>base≤b∧b<w.heap.size) w ty v cs:=by
 have hl:cs.length=n:=by have:=h.1;omega
 rcases h.2 with⟨rfl,rfl⟩|⟨g,cap,cur,rfl,hb,hg,hnc,hcm,hcs,ht⟩
 · exact zr
 · refine⟨some ⟨g,0,none⟩,cap,by rw[hl],by omega,hcm,fun _=>⟨g,cur,rfl,⟨hb,(Array.getElem?_eq_some_iff.1 hg).1⟩,hg,fun i u hu=> ?_⟩⟩
   exact zL
theorem Part.shape (h:Part P w ty v cs):∃A c,v= .slice A cs.length c∧cs.length≤c∧c≤maxLen:=by
 obtain⟨A,c,e,h1,h2,-⟩:=h;exact⟨A,c,e,h1,h2⟩
theorem Part.head (h:Part P w ty (.slice A n c) cs) (hn:0<n):
 ∃(g:Nat) (cur:Array Value),A=some ⟨g,0,none⟩∧P g∧Blk w g ty cur∧∀(i:Nat) (u:Value),cs[i]? =some u→cur[i]? =some u:=by
 obtain⟨A',c',e,h1,h2,h3⟩:=h;simp only[Value.slice.injEq] at e;obtain⟨rfl,e2,rfl⟩:=e;exact h3 (by omega)
theorem Part.set {g i:Nat} (h:Part P w ty (.slice (some ⟨g,0,none⟩) n c) cs) (hn:0<n) (u:Value):Part P (w.setCell ⟨g,i,none⟩ u) ty (.slice (some ⟨g,0,none⟩) n c) (cs.set i u):=by
 obtain⟨g',cur,e,hP,hb,hc⟩:=h.head hn;simp only[Option.some.injEq,Addr.mk.injEq,and_true] at e;subst e;obtain⟨A',c',e,h1,h2,h3⟩:=h;simp only[Value.slice.injEq] at e;obtain⟨rfl,e2,rfl⟩:=e;refine⟨some ⟨g,0,none⟩,c,by rw[List.length_set,e2],by rw[List.length_set];exact h1,h2,fun _=>⟨g,_,rfl,hP,hb.set i u,fun j x hx=> ?_⟩⟩;rw[List.getElem?_set] at hx;rw[Array.getElem?_setIfInBounds];split at hx
 · subst i
   have hj:j<cur.size:=by
    split at hx
    · have:=hc j cs[j] (List.getElem?_eq_getElem (by assumption))
      exact(Array.getElem?_eq_some_iff.1 this).1
    · cases hx
   rw[if_pos rfl,if_pos hj];split at hx
   · exact hx
   · cases hx
 · rw[if_neg (by assumption)]
   exact hc j x hx
theorem Part.words (h:Part P w 32 v (Ns xs)) (hb:∀x∈xs,x<B64):wrdL.R P w [v] xs:=by
 obtain⟨A,c,rfl,h1,h2,h3⟩:=h;rw[qBz] at h1 h3⊢;refine⟨A,c,rfl,h1,h2,fun hp=> ?_⟩;obtain⟨g,cur,rfl,hP,hg,hc⟩:=h3 hp;refine⟨_,rfl,hP,fun j x hx=>⟨[.int .u64 (x:Int)],fun i u hu=> ?_,rfl,hb x (qBQ hx)⟩⟩
 match i,hu with
 |0,hu=>
  simp at hu;subst hu;rw[add_zero,show j*numL.k+0=j by show j*1+0=j;omega,hg.cell];exact hc j _ (qHB hx)
 |i+1,hu=>simp at hu
theorem Part.bytes (h:Part P w 5 v (Bs xs)) (hb:∀x∈xs,x<256):bytL.R P w [v] xs:=by
 obtain⟨A,c,rfl,h1,h2,h3⟩:=h;rw[qDW] at h1 h3⊢;refine⟨A,c,rfl,h1,h2,fun hp=> ?_,hb⟩;obtain⟨g,cur,rfl,hP,hg,hc⟩:=h3 hp;refine⟨_,rfl,hP,fun j hj=> ?_⟩;rw[add_zero,hg.cell];exact hc j _ (qHq xs j hj)
def Obj1 (P0 P1:Nat→Prop) (w:World) (cs:List Value) (o:Ob):Prop:=
 ∃v0 v1,cs=[.int .i64 o.kind,.int .i64 o.n,v0,v1]∧I64 o.kind∧I64 o.n∧(∀x∈o.words,x<B64)∧(∀x∈o.bytes,x<256)∧Part P0 w 32 v0 (Ns o.words)∧Part P1 w 5 v1 (Bs o.bytes)
theorem Obj1.keep {o:Ob} (h:Obj1 P0 P1 w cs o) (h0:∀b,P0 b→w'.heap[b]? =w.heap[b]?) (h1:∀b,P1 b→w'.heap[b]? =w.heap[b]?):Obj1 P0 P1 w' cs o:=by
 obtain⟨v0,v1,e,a,b,c,d,e0,e1⟩:=h;exact⟨v0,v1,e,a,b,c,d,e0.keep h0,e1.keep h1⟩
theorem Obj1.wide {Q0 Q1:Nat→Prop} {o:Ob} (h:Obj1 P0 P1 w cs o) (h0:∀b,b<w.heap.size→P0 b→Q0 b) (h1:∀b,b<w.heap.size→P1 b→Q1 b):Obj1 Q0 Q1 w cs o:=by
 obtain⟨v0,v1,e,a,b,c,d,e0,e1⟩:=h;exact⟨v0,v1,e,a,b,c,d,e0.wide h0,e1.wide h1⟩
theorem Obj1.len {o:Ob} (h:Obj1 P0 P1 w cs o):cs.length=4:=by
 obtain⟨v0,v1,rfl,-⟩:=h
 rfl
theorem Obj1.one {o:Ob} (h:Obj1 P0 P1 w cs o):∀u∈cs,u.oneCell'=true:=by
 obtain⟨v0,v1,rfl,-,-,-,-,e0,e1⟩:=h;obtain⟨A,c,rfl,-⟩:=e0;obtain⟨B,d,rfl,-⟩:=e1;intro u hu;simp at hu;rcases hu with rfl|rfl|rfl|rfl<;>rfl
theorem Obj1.ob {o:Ob} (h:Obj1 P0 P1 w cs o) (h0:∀b,P0 b→S b) (h1:∀b,P1 b→S b):obL.R S w cs o:=by
 obtain⟨v0,v1,rfl,a,b,c,d,e0,e1⟩:=h;exact⟨v0,v1,rfl,a,b,wrdL.wide (e0.words c) h0,bytL.wide (e1.bytes d) h1⟩
theorem Obj1.parts {o:Ob} (h:Obj1 P0 P1 w cs o):
 ∃A c B d,cs=[.int .i64 o.kind,.int .i64 o.n,.slice A o.words.length c,.slice B o.bytes.length d]∧Part P0 w 32 (.slice A o.words.length c) (Ns o.words)∧Part P1 w 5 (.slice B o.bytes.length d) (Bs o.bytes):=by
 obtain⟨v0,v1,rfl,a,b,x,y,e0,e1⟩:=h;obtain⟨A,c,rfl,q⟩:=id e0;obtain⟨B,d,rfl,q'⟩:=id e1;rw[qBz] at e0⊢;rw[qDW] at e1⊢;exact⟨A,c,B,d,rfl,e0,e1⟩
theorem ob0_one (P0 P1:Nat→Prop) (w:World):Obj1 P0 P1 w [.int .i64 0,.int .i64 0,.slice none 0 0,.slice none 0 0] ob0:=
 ⟨_,_,rfl,⟨by decide,by decide⟩,⟨by decide,by decide⟩,by simp[ob0],by simp[ob0],Part.nil _ _ _,Part.nil _ _ _⟩
def Row (S:Nat→Prop) (tag:Nat→Nat) (w:World) (v:Value) (css:List (List Value)) (O:List Ob):Prop:=
 css.length=O.length∧w.ownsRow 0 78 4 v O.length css.flatten∧(∀b,v.ownBlock=some b→S b∧tag b=1)∧
  ∀(j:Nat) (o:Ob) (cs:List Value),O[j]? =some o→css[j]? =some cs→Obj1 (fun b=>S b∧tag b=2*j+2) (fun b=>S b∧tag b=2*j+3) w cs o
theorem Row.len4 {O:List Ob} (h:Row S tag w v css O):∀cs∈css,cs.length=4:=fun cs hcs=>by
 obtain⟨j,hj⟩:=qBk.1 hcs;have hjl:j<O.length:=by rw[←h.1];exact(qBM.1 hj).1
 exact(h.2.2.2 j _ cs (List.getElem?_eq_getElem hjl) hj).len
theorem Row.keep {O:List Ob} (h:Row S tag w v css O) (hk:∀b,S b→0<tag b→w'.heap[b]? =w.heap[b]?):Row S tag w' v css O:=
 ⟨h.1,qBs h.2.1 fun b e=>hk b (h.2.2.1 b e).1 (by have:=(h.2.2.1 b e).2;omega),h.2.2.1,fun j o cs h1 h2=>(h.2.2.2 j o cs h1 h2).keep (fun b hb=>hk b hb.1 (by omega)) fun b hb=>hk b hb.1 (by omega)⟩
theorem Row.wide {T:Nat→Prop} {O:List Ob} (h:Row S tag w v css O) (hk:∀b,S b→T b):Row T tag w v css O:=
 ⟨h.1,h.2.1,fun b e=>⟨hk b (h.2.2.1 b e).1,(h.2.2.1 b e).2⟩,fun j o cs h1 h2=>(h.2.2.2 j o cs h1 h2).wide (fun b _ hb=>⟨hk b hb.1,hb.2⟩) fun b _ hb=>⟨hk b hb.1,hb.2⟩⟩
theorem Row.nil (S:Nat→Prop) (tag:Nat→Nat) (w:World):Row S tag w (.slice none 0 0) [] []:=
 ⟨rfl,World.ownsRow_nil _ _ _ _,fun b e=>by simp[Value.ownBlock] at e,fun j o cs h=>by simp at h⟩
theorem Row.sl {O:List Ob} (h:Row S tag w v css O):(slL obL).R S w [v] O:=by
 obtain⟨hl,hown,hb,hR⟩:=h;have hR':∀(j:Nat) (o:Ob) (cs:List Value),O[j]? =some o→css[j]? =some cs→obL.R S w cs o:=fun j o cs h1 h2=>(hR j o cs h1 h2).ob (fun b hb=>hb.1) fun b hb=>hb.1;have hk:∀cs∈css,cs.length=obL.k:=fun cs hcs=>by
  obtain⟨j,hj⟩:=qBk.1 hcs;have hjl:j<O.length:=by rw[←hl];exact(qBM.1 hj).1
  exact obL.len (hR' j _ cs (List.getElem?_eq_getElem hjl) hj)
 rcases hown.2 with⟨rfl,h0⟩|⟨g,cap,cur,rfl,hb',hg,hnc,hcm,_,_⟩
 · exact qt
 · refine⟨some ⟨g,0,none⟩,cap,rfl,hnc,hcm,fun _=>⟨⟨g,0,none⟩,rfl,(hb g rfl).1,fun j x hx=> ?_⟩⟩
   refine qAz ?_;intro hjl hcs;have hr:=hR' j x _ hx hcs;refine⟨_,fun i u hu=> ?_,hr⟩;have hi:i<obL.k:=by rw[←obL.len hr];exact(qBM.1 hu).1
   exact hown.cells rfl (j*obL.k+i) u (by rw[qCf hk hcs i hi];exact hu)
theorem Row.shape {O:List Ob} (h:Row S tag w v css O):∃A c,v= .slice A O.length c∧O.length≤c∧c≤maxLen:=by
 obtain⟨A,c,e,h1,h2,-⟩:=h.sl;simp only[List.cons.injEq,and_true] at e;exact⟨A,c,e,h1,h2⟩
theorem Row.cells {O:List Ob} (h:Row S tag w (.slice A n c) css O) {o:Ob} (hj:O[j]? =some o):
 ∃g cs,A=some ⟨g,0,none⟩∧S g∧tag g=1∧g<w.heap.size∧css[j]? =some cs∧(∀i u,cs[i]? =some u→w.cell? ⟨g,j*4+i,none⟩=some u)∧(∀i,w.frozen? ⟨g,i,none⟩=false)∧
  Obj1 (fun b=>S b∧tag b=2*j+2) (fun b=>S b∧tag b=2*j+3) w cs o:=by
 have hk:=h.len4;obtain⟨hl,hown,hb,hR⟩:=h;have hjl:j<css.length:=by rw[hl];exact(qBM.1 hj).1
 have hcs:=List.getElem?_eq_getElem hjl;have hr:=hR j o _ hj hcs;obtain⟨g,c',e,-,hg⟩:=qCQ hown (by omega);simp only[Value.slice.injEq] at e;obtain⟨rfl,rfl,rfl⟩:=e;refine⟨g,_,rfl,(hb g rfl).1,(hb g rfl).2,hg,hcs,fun i u hu=> ?_,fun i=>hown.frozenAt i,hr⟩;have hi:i<4:=by rw[←hr.len];exact(qBM.1 hu).1
 have:=hown.cells rfl (j*4+i) u (by rw[qCf hk hcs i hi];exact hu)
 rwa [add_zero] at this
structure Hnd where
 kind:Int
 desc:Nat
 opn:Bool
theorem Hnd.eq_of {a b:Hnd} (h1:a.kind=b.kind) (h2:a.desc=b.desc) (h3:a.opn=b.opn):a=b:=by
 cases a;cases b;simp_all
instance:DecidableEq Hnd:=fun a b=>decidable_of_iff (a.kind=b.kind∧a.desc=b.desc∧a.opn=b.opn) ⟨fun h=>Hnd.eq_of h.1 h.2.1 h.2.2,fun h=>by subst h;exact⟨rfl,rfl,rfl⟩⟩
instance:Inhabited Hnd:=⟨⟨0,0,false⟩⟩
def hdC (h:Hnd):List Value:=[.int .i64 h.kind,.int .u64 (h.desc:Int),.bool h.opn]
theorem hdC_one (h:Hnd):∀u∈hdC h,u.oneCell'=true:=by
 intro u hu;simp only[hdC,List.mem_cons,List.not_mem_nil,or_false] at hu;rcases hu with rfl|rfl|rfl<;>rfl
def hdL:Lay Hnd where
 k:=3
 R _ _ cs h:=cs=hdC h∧I64 h.kind∧h.desc<B64
 len:=by rintro S w cs x ⟨rfl,_⟩;rfl
 keep:=by rintro S w w' cs x h _;exact h
 wide:=by rintro S T w cs x h _;exact h
 one:=by rintro S w cs x ⟨rfl,_⟩ u hu;exact hdC_one x u hu
def HOk (H:List Hnd):Prop:=∀h∈H,I64 h.kind∧h.desc<B64
theorem HOk.nil:HOk []:=fun h hh=>by simp at hh
theorem HOk.app {H K:List Hnd} (h:HOk H) (k:HOk K):HOk (H++K):=fun x hx=>(List.mem_append.1 hx).elim (h x) (k x)
theorem HOk.set {H:List Hnd} (h:HOk H) (j:Nat) {x:Hnd} (hx:I64 x.kind∧x.desc<B64):HOk (H.set j x):=fun y hy=>by
 rcases List.mem_or_eq_of_mem_set hy with q|q
 · exact h y q
 · rw[q];exact hx
def Hcs (H:List Hnd):List Value:=(H.map hdC).flatten
theorem Hcs_k (H:List Hnd):∀cs∈H.map hdC,cs.length=3:=fun cs hc=>by
 obtain⟨h,-,rfl⟩:=List.mem_map.1 hc
 rfl
theorem Hcs_at {H:List Hnd} {h:Hnd} (hj:H[j]? =some h) (i:Nat) (hi:i<3):(Hcs H)[j*3+i]? =(hdC h)[i]? :=qCf (Hcs_k H) (by simp[hj]) i hi
theorem qFx {S:Nat→Prop} {w:World}:∀{css:List (List Value)} {H:List Hnd},css.length=H.length→(∀(j:Nat) (x:Hnd) (cs:List Value),H[j]? =some x→css[j]? =some cs→hdL.R S w cs x)→css.flatten=Hcs H
 |[],[],_,_=>rfl
 |[],_::_,h,_=>by simp at h
 |_::_,[],h,_=>by simp at h
 |c::css,x::xs,h,hR=>by
  have h0:=hR 0 x c rfl rfl;have ih:=qFx (css:=css) (H:=xs) qy fun j y cs h1 h2=>hR (j+1) y cs (by simpa using h1) (by simpa using h2);rw[List.flatten_cons,ih,h0.1]
  rfl
theorem sq_ok {H:List Hnd} (h:Sq hdL S w A H):HOk H:=fun x hx=>by
 obtain⟨j,hj⟩:=qBk.1 hx;obtain⟨a,cs,-,-,-,-,q⟩:=h.at hj;exact q
theorem qHb {base:Nat} {H:List Hnd} (h:w.ownsRow base 102 3 v H.length (Hcs H)) (ok:HOk H):
 ∃A c,v= .slice A H.length c∧H.length≤c∧c≤maxLen∧Sq hdL (fun b=>v.ownBlock=some b∧base≤b∧b<w.heap.size) w A H:=by
 have hn:(slL hdL).R (fun b=>v.ownBlock=some b∧base≤b∧b<w.heap.size) w [v] H:=by
  rcases h.2 with⟨rfl,h0⟩|⟨g,cap,cur,rfl,hb,hg,hnc,hcm,_,_⟩
  · exact qt
  · refine⟨some ⟨g,0,none⟩,cap,rfl,hnc,hcm,fun _=>⟨_,rfl,⟨rfl,hb,(Array.getElem?_eq_some_iff.1 hg).1⟩,fun j x hx=>⟨hdC x,fun i u hu=> ?_,rfl,ok x (qBQ hx)⟩⟩⟩
    have hi:i<3:=(qBM.1 hu).1;exact h.cells rfl (j*3+i) u (by rw[Hcs_at hx i hi];exact hu)
 obtain⟨A,c,e,h1,h2,h3⟩:=hn;simp only[List.cons.injEq,and_true] at e;exact⟨A,c,e,h1,h2,h3⟩
theorem qK4:(Tryz.prog.info? 102).map (fun i=>(i.zero,i.size,i.bytes))=some (some (.agg #[.int .i64 0,.int .u64 0,.bool false]),3,24):=by kernel_rfl
structure Frm where
 fn:Int
 pc:Int
 locs:List Nat
 stk:List Nat
theorem Frm.eq_of {a b:Frm} (h1:a.fn=b.fn) (h2:a.pc=b.pc) (h3:a.locs=b.locs) (h4:a.stk=b.stk):a=b:=by
 cases a;cases b;simp_all
instance:DecidableEq Frm:=fun a b=>decidable_of_iff (a.fn=b.fn∧a.pc=b.pc∧a.locs=b.locs∧a.stk=b.stk) ⟨fun h=>Frm.eq_of h.1 h.2.1 h.2.2.1 h.2.2.2,fun h=>by subst h;exact⟨rfl,rfl,rfl,rfl⟩⟩
instance:Inhabited Frm:=⟨⟨0,0,[],[]⟩⟩
structure Stt where
 fr:List Frm
 hp:List Ob
 hn:List Hnd
 quota:Int
 used:Int
 fin:Int
 val:Nat
theorem Stt.eq_of {a b:Stt} (h1:a.fr=b.fr) (h2:a.hp=b.hp) (h3:a.hn=b.hn) (h4:a.quota=b.quota) (h5:a.used=b.used) (h6:a.fin=b.fin) (h7:a.val=b.val):a=b:=by
 cases a;cases b;simp_all
instance:DecidableEq Stt:=fun a b=>decidable_of_iff (a.fr=b.fr∧a.hp=b.hp∧a.hn=b.hn∧a.quota=b.quota∧a.used=b.used∧a.fin=b.fin∧a.val=b.val) ⟨fun h=>Stt.eq_of h.1 h.2.1 h.2.2.1 h.2.2.2.1 h.2.2.2.2.1 h.2.2.2.2.2.1 h.2.2.2.2.2.2,fun h=>by subst h;exact⟨rfl,rfl,rfl,rfl,rfl,rfl,rfl⟩⟩
instance:Inhabited Stt:=⟨⟨[],[],[],0,0,0,0⟩⟩
def Frm.small (f:Frm):Prop:=f.locs.length≤100000∧f.stk.length≤100000
def frL:Lay Frm where
 k:=4
 R S w cs o:=∃v0 v1,cs=[.int .i64 o.fn,.int .i64 o.pc,v0,v1]∧I64 o.fn∧I64 o.pc∧wrdL.R S w [v0] o.locs∧wrdL.R S w [v1] o.stk
 len:=by rintro S w cs x ⟨v0,v1,rfl,_⟩;rfl
 keep:=by rintro S w w' cs x ⟨v0,v1,rfl,h1,h2,h3,h4⟩ hk;exact⟨v0,v1,rfl,h1,h2,wrdL.keep h3 hk,wrdL.keep h4 hk⟩
 wide:=by rintro S T w cs x ⟨v0,v1,rfl,h1,h2,h3,h4⟩ hk;exact⟨v0,v1,rfl,h1,h2,wrdL.wide h3 hk,wrdL.wide h4 hk⟩
 one:=by
  rintro S w cs x ⟨v0,v1,rfl,h1,h2,h3,h4⟩ u hu;simp at hu;rcases hu with rfl|rfl|rfl|rfl
  · rfl
  · rfl
  · exact wrdL.one h3 _ (by simp)
  · exact wrdL.one h4 _ (by simp)
theorem qDS {o:Frm} (h:frL.R S w cs o):
 ∃A c B d,cs=[.int .i64 o.fn,.int .i64 o.pc,.slice A o.locs.length c,.slice B o.stk.length d]∧o.locs.length≤c∧c≤maxLen∧o.stk.length≤d∧d≤maxLen∧Sq numL S w A o.locs∧Sq numL S w B o.stk∧I64 o.fn∧I64 o.pc:=by
 obtain⟨v0,v1,rfl,h1,h2,⟨A,c,e0,a1,a2,a3⟩,⟨B,d,e1,b1,b2,b3⟩⟩:=h;simp only[List.cons.injEq,and_true] at e0 e1;subst e0 e1;exact⟨A,c,B,d,rfl,a1,a2,b1,b2,a3,b3,h1,h2⟩
abbrev frsL:Lay (List Frm):=slL frL
abbrev obsL:Lay (List Ob):=slL obL
abbrev hnsL:Lay (List Hnd):=slL hdL
def stL:Lay Stt where
 k:=7
 R S w cs s:=∃v0 v1 v2,cs=[v0,v1,v2,.int .i64 s.quota,.int .i64 s.used,.int .i64 s.fin,.int .u64 (s.val:Int)]∧frsL.R S w [v0] s.fr∧obsL.R S w [v1] s.hp∧hnsL.R S w [v2] s.hn∧I64 s.quota∧I64 s.used∧I64 s.fin∧s.val<B64
 len:=by rintro S w cs x ⟨v0,v1,v2,rfl,_⟩;rfl
 keep:=by rintro S w w' cs x ⟨v0,v1,v2,rfl,h0,h1,h2,h3⟩ hk;exact⟨v0,v1,v2,rfl,frsL.keep h0 hk,obsL.keep h1 hk,hnsL.keep h2 hk,h3⟩
 wide:=by rintro S T w cs x ⟨v0,v1,v2,rfl,h0,h1,h2,h3⟩ hk;exact⟨v0,v1,v2,rfl,frsL.wide h0 hk,obsL.wide h1 hk,hnsL.wide h2 hk,h3⟩
 one:=by
  rintro S w cs x ⟨v0,v1,v2,rfl,h0,h1,h2,h3⟩ u hu;simp at hu;rcases hu with rfl|rfl|rfl|rfl|rfl|rfl|rfl
  · exact frsL.one h0 _ (by simp)
  · exact obsL.one h1 _ (by simp)
  · exact hnsL.one h2 _ (by simp)
  all_goals rfl
theorem qCV {s:Stt} (h:stL.R S w cs s):
 ∃A0 c0 A1 c1 A2 c2,cs=[.slice A0 s.fr.length c0,.slice A1 s.hp.length c1,.slice A2 s.hn.length c2,.int .i64 s.quota,.int .i64 s.used,.int .i64 s.fin,.int .u64 (s.val:Int)]∧
  s.fr.length≤c0∧c0≤maxLen∧s.hp.length≤c1∧c1≤maxLen∧s.hn.length≤c2∧c2≤maxLen∧Sq frL S w A0 s.fr∧Sq obL S w A1 s.hp∧Sq hdL S w A2 s.hn∧I64 s.quota∧I64 s.used∧I64 s.fin∧s.val<B64:=by
 obtain⟨v0,v1,v2,rfl,⟨A0,c0,e0,a1,a2,a3⟩,⟨A1,c1,e1,b1,b2,b3⟩,⟨A2,c2,e2,d1,d2,d3⟩,h4,h5,h6,h7⟩:=h;simp only[List.cons.injEq,and_true] at e0 e1 e2;subst e0 e1 e2;exact⟨A0,c0,A1,c1,A2,c2,rfl,a1,a2,b1,b2,d1,d2,a3,b3,d3,h4,h5,h6,h7⟩
def Stt.low (s:Stt):Prop:=s.fr.length≤1000∧s.hp.length≤1000∧s.hn.length≤1000∧(∀f∈s.fr,f.small)∧∀o∈s.hp,o.small
def argN (op:Int):Int:=
 if op=29∨op=30 then 2
 else if op=0∨op=1∨op=3∨op=4∨op=23∨op=24∨op=25∨op=27∨op=28 then 1
 else if op<0∨42≤op then -1 else 0
theorem qDf (op:Int):argN op= -1∨argN op=0∨argN op=1∨argN op=2:=by
 unfold argN
 repeat' split
 all_goals simp
theorem argN_op (op:Int) (h:0≤argN op):0≤op∧op<42:=by
 unfold argN at h
 repeat' split at h
 all_goals omega
def fitN (n a b:Int):Bool:=decide (0≤a∧a≤(if 0<n then 255 else 0)∧0≤b∧b≤(if 1<n then 255 else 0))
def goodI (op a b:Int):Bool:=decide (0≤argN op) && fitN (argN op) a b
def bodyB (n:Int) (a b:Nat):List Nat:=(if 0<n then vb a else [])++(if 1<n then vb b else [])
def insB (op a b:Int):List Nat:=if goodI op a b=true then op.toNat::bodyB (argN op) a.toNat b.toNat else []
theorem qBm (h:goodI op a b=true):∃o x y:Nat,op=(o:Int)∧a=(x:Int)∧b=(y:Int)∧o<42∧x≤255∧y≤255∧0≤argN op∧(¬0<argN op→x=0)∧(¬1<argN op→y=0):=by
 unfold goodI fitN at h;simp only[Bool.and_eq_true,decide_eq_true_eq] at h;obtain⟨h0,h1,h2,h3,h4⟩:=h;have:=argN_op op h0;refine⟨op.toNat,a.toNat,b.toNat,by omega,by omega,by omega,by omega,?_,?_,h0,fun hn=> ?_,fun hn=> ?_⟩
 · split at h2<;>omega
 · split at h4<;>omega
 · rw[if_neg hn] at h2;omega
 · rw[if_neg hn] at h4;omega
theorem qOI {o:Nat} (h0:0≤argN o) (hx:x≤255) (hy:y≤255) (h1:¬0<argN o→x=0) (h2:¬1<argN o→y=0):goodI o x y=true:=by
 unfold goodI fitN;simp only[Bool.and_eq_true,decide_eq_true_eq];refine⟨h0,by omega,?_,by omega,?_⟩
 · split
   · omega
   · rename_i h;have:=h1 h;omega
 · split
   · omega
   · rename_i h;have:=h2 h;omega
theorem qCK {o:Nat} (h:goodI o x y=true):insB o x y=o::bodyB (argN o) x y:=by
 unfold insB;rw[if_pos h];simp
theorem qEA (h:¬goodI op a b=true):insB op a b=[]:=by
 unfold insB;rw[if_neg h]
theorem qHy (x:Nat) (h:x≤255):(vb x).length≤2:=qCq 1 x (by omega)
theorem qMW (n:Int) (x y:Nat) (hx:x≤255) (hy:y≤255):(bodyB n x y).length≤4:=by
 have h1:=qHy x hx;have h2:=qHy y hy;unfold bodyB;split<;>split<;>simp<;>omega
theorem qIr (op a b:Int):(insB op a b).length≤5:=by
 by_cases h:goodI op a b=true
 · obtain⟨o,x,y,rfl,rfl,rfl,_,hx,hy,_⟩:=qBm h
   rw[qCK h];have:=qMW (argN o) x y hx hy;simp
   omega
 · rw[qEA h];simp
theorem qJE (n:Int) (x y:Nat):∀z∈bodyB n x y,z<256:=by
 intro z hz;unfold bodyB at hz;rcases List.mem_append.1 hz with h|h
 · split at h
   · exact qC2 x z h
   · simp at h
 · split at h
   · exact qC2 y z h
   · simp at h
theorem qFw (op a b:Int):∀z∈insB op a b,z<256:=by
 by_cases h:goodI op a b=true
 · obtain⟨o,x,y,rfl,rfl,rfl,ho,hx,hy,_⟩:=qBm h
   rw[qCK h];intro z hz;rcases List.mem_cons.1 hz with rfl|hz
   · omega
   · exact qJE _ _ _ z hz
 · rw[qEA h];simp
theorem qNw (h:goodI op a b=true):0<(insB op a b).length:=by
 obtain⟨o,x,y,rfl,rfl,rfl,ho,hx,hy,_⟩:=qBm h;rw[qCK h];simp
def HasI (xs:List Nat):Prop:=∃(o x y:Nat) (rest:List Nat),goodI o x y=true∧xs=insB o x y++rest
theorem qCM {v:Nat} (h:IsVar xs v n):xs=vb v++xs.drop n:=by
 rw[←h.2.1,List.take_append_drop]
theorem qNv {v:Nat} (h:xs=vb v++rest) (hv:v<B64):IsVar xs v (vb v).length:=by
 subst h;exact qCB v hv rest
theorem qB3 {v u:Nat} (hv:v<B64) (hu:u<B64) {s:List Nat} (h:vb v++r=vb u++s):v=u∧r=s:=by
 obtain⟨e,_⟩:=qCF (qCB v hv r) (qNv h hu);subst e;exact⟨rfl,List.append_cancel_left h⟩
theorem qJ5 {o o' x' y':Nat} {s:List Nat} (h:goodI o x y=true) (h':goodI o' x' y'=true) (e:insB o x y++r=insB o' x' y'++s):o=o'∧x=x'∧y=y'∧r=s:=by
 rw[qCK h,qCK h',List.cons_append,List.cons_append] at e;injection e with e1 e2;subst e1;obtain⟨_,a,b,q1,q2,q3,_,hx,hy,h0,hx1,hy1⟩:=qBm h;obtain⟨_,a',b',q1',q2',q3',_,hx',hy',_,hx1',hy1'⟩:=qBm h';obtain rfl:x=a:=by omega
 obtain rfl:y=b:=by omega
 obtain rfl:x'=a':=by omega
 obtain rfl:y'=b':=by omega
 have k:x<B64∧y<B64∧x'<B64∧y'<B64:=by unfold B64;omega
 rcases qDf o with hn|hn|hn|hn
 · omega
 · have:=hx1 (by omega)
   have:=hx1' (by omega);have:=hy1 (by omega);have:=hy1' (by omega);rw[hn] at e2;simp[bodyB] at e2;exact⟨rfl,by omega,by omega,e2⟩
 · have:=hy1 (by omega)
   have:=hy1' (by omega);rw[hn] at e2;simp[bodyB] at e2;obtain⟨a,b⟩:=qB3 k.1 k.2.2.1 e2;exact⟨rfl,a,by omega,b⟩
 · rw[hn] at e2
   simp[bodyB] at e2;obtain⟨a,b⟩:=qB3 k.1 k.2.2.1 e2;obtain⟨c,d⟩:=qB3 k.2.1 k.2.2.2 b;exact⟨rfl,a,c,d⟩
def pt (x:List Nat):List Nat:=vb x.length++x
def pts (xss:List (List Nat)):List Nat:=(xss.map pt).flatten
def joinB (xss:List (List Nat)):List Nat:=vb xss.length++pts xss
theorem qDO (x:List Nat) (r:List (List Nat)):pts (x::r)=pt x++pts r:=by simp[pts]
theorem qKt (a b:List (List Nat)):pts (a++b)=pts a++pts b:=by simp[pts]
theorem qIQ (a:List (List Nat)) (x:List Nat):pts (a++[x])=pts a++pt x:=by simp[pts]
theorem qCw (x:List Nat):(pt x).length=(vb x.length).length+x.length:=by simp[pt]
theorem qND (xss:List (List Nat)) (k:Nat) (h:k<xss.length):pts (xss.take (k+1))=pts (xss.take k)++pt (xss[k]?.getD []):=by
 rw[qBW h,qIQ];simp[h]
theorem pts_le (xss:List (List Nat)) (k:Nat):(pts (xss.take k)).length≤(pts xss).length:=by
 conv=>rhs;rw[←List.take_append_drop k xss,qKt,List.length_append]
 omega
theorem qFi (xss:List (List Nat)):xss.length≤(pts xss).length:=by
 induction xss with
 |nil=>simp
 |cons x r ih=>
  rw[qDO,List.length_append,qCw,List.length_cons];have:=qFU x.length
  omega
theorem qLd (xss:List (List Nat)) (M:Nat) (hM:M<B64) (h:∀j,j<xss.length→(xss[j]?.getD []).length≤M):(pts xss).length≤xss.length*(10+M):=by
 induction xss with
 |nil=>simp[pts]
 |cons x r ih=>
  have h0:=h 0 (by simp);simp at h0;have h1:=ih fun j hj=>by have:=h (j+1) qK;simpa using this
  have h2:=qCq 9 x.length (by unfold B64 at hM;omega);rw[qDO,List.length_append,qCw,List.length_cons,Nat.add_mul]
  omega
theorem qLc (xss:List (List Nat)) (h:∀j,j<xss.length→∀x∈xss[j]?.getD [],x<256):∀x∈pts xss,x<256:=by
 induction xss with
 |nil=>simp[pts]
 |cons a r ih=>
  intro x hx;rw[qDO,List.mem_append] at hx;rcases hx with hx|hx
  · rw[pt,List.mem_append] at hx
    rcases hx with hx|hx
    · exact qC2 _ x hx
    · have:=h 0 (by simp) x
      simp at this;exact this hx
  · exact ih (fun j hj=>by have:=h (j+1) qK;simpa using this) x hx
theorem qIn (xss:List (List Nat)) (h:∀j,j<xss.length→∀x∈xss[j]?.getD [],x<256):∀x∈joinB xss,x<256:=by
 intro x hx;rw[joinB,List.mem_append] at hx;rcases hx with hx|hx
 · exact qC2 _ x hx
 · exact qLc xss h x hx
theorem qCd (xss:List (List Nat)):(joinB xss).length=(vb xss.length).length+(pts xss).length:=by simp[joinB]
theorem qIo (xss:List (List Nat)) (M:Nat) (hM:M<B64) (hn:xss.length<B64) (h:∀j,j<xss.length→(xss[j]?.getD []).length≤M):(joinB xss).length≤10+xss.length*(10+M):=by
 have h1:=qLd xss M hM h;have h2:=qCq 9 xss.length (by unfold B64 at hn;omega);rw[qCd]
 omega
def HasPart (rest:List Nat) (m j:Nat):Prop:=IsVar rest m j∧j+m≤rest.length
theorem qGN {m:Nat} (h:HasPart rest m j):((rest.drop j).take m).length=m∧rest=pt ((rest.drop j).take m)++rest.drop (j+m):=by
 have hl:((rest.drop j).take m).length=m:=by rw[List.length_take,List.length_drop];have:=h.2;omega
 refine⟨hl,?_⟩;rw[pt,hl,←h.1.2.1,List.append_assoc];have:(rest.drop j).take m++rest.drop (j+m)=rest.drop j:=by
  rw[←List.drop_drop];exact List.take_append_drop m _
 rw[this,List.take_append_drop]
theorem qIy (x r:List Nat) (hx:x.length<B64):HasPart (pt x++r) x.length (vb x.length).length:=by
 refine⟨?_,?_⟩
 · rw[pt,List.append_assoc]
   exact qCB _ hx _
 · simp[pt]
theorem qFj {x:List Nat} (hx:x.length<B64) (h:pt x++r=rest):∃m j,HasPart rest m j∧x=(rest.drop j).take m∧r=rest.drop (j+m):=by
 subst h;refine⟨x.length,(vb x.length).length,qIy x r hx,?_,?_⟩
 · rw[pt,List.append_assoc,List.drop_left,List.take_left]
 · rw[←List.drop_drop,pt,List.append_assoc,List.drop_left,List.drop_left]
theorem qFy {m m' j':Nat} (h:HasPart rest m j) (h':HasPart rest m' j'):m=m'∧j=j':=qCF h.1 h'.1
theorem no_part (hb:bs=pts pre++rest) (hn:pre.length<xss.length) (hlt:bs.length<B64) (hx:bs=pts xss) (hpre:∃more,xss=pre++more) (hno:¬∃m j,HasPart rest m j):False:=by
 obtain⟨more,rfl⟩:=hpre;rw[qKt] at hx;have hr:rest=pts more:=List.append_cancel_left (hb.symm.trans hx)
 cases more with
 |nil=>simp at hn
 |cons x r=>
  rw[qDO] at hr;have hxl:x.length<B64:=by
   have:x.length≤rest.length:=by rw[hr,List.length_append,qCw];omega
   have:rest.length≤bs.length:=by rw[hb,List.length_append];omega
   omega
  obtain⟨m,j,h,_⟩:=qFj hxl hr.symm;exact hno ⟨m,j,h⟩
theorem qHR (pre:List (List Nat)):∀(xss:List (List Nat)) (rest bs:List Nat),bs=pts pre++rest→bs=pts xss→bs.length<B64→pre.length≤xss.length→∃more,xss=pre++more:=by
 induction pre with
 |nil=>intro xss _ _ _ _ _ _;exact⟨xss,rfl⟩
 |cons a pre ih=>
  intro xss rest bs hb hx hlt hn
  cases xss with
  |nil=>simp at hn
  |cons x xss=>
   rw[qDO,List.append_assoc] at hb;rw[qDO] at hx;have ha:a.length<B64:=by
    have:a.length≤bs.length:=by rw[hb,List.length_append,qCw];omega
    omega
   have hx':x.length<B64:=by
    have:x.length≤bs.length:=by rw[hx,List.length_append,qCw];omega
    omega
   obtain⟨m,j,h1,h2,h3⟩:=qFj ha hb.symm;obtain⟨m',j',h1',h2',h3'⟩:=qFj hx' hx.symm;obtain⟨rfl,rfl⟩:=qFy h1 h1';obtain⟨more,e⟩:=ih xss rest (bs.drop (j+m)) h3.symm h3'.symm qK (by simpa using hn);exact⟨more,by rw[h2,h2',e];rfl⟩
def Body (bs:List Nat) (n:Nat) (xss:List (List Nat)):Prop:=xss.length=n∧bs=pts xss
theorem qJD {yss:List (List Nat)} (hlt:bs.length<B64) (h:Body bs n xss) (h':Body bs n yss):xss=yss:=by
 obtain⟨more,e⟩:=qHR xss yss [] bs (by rw[List.append_nil];exact h.2) h'.2 hlt (by rw[h.1,h'.1];exact qBL _);have:more=[]:=by
  have h1:=congrArg List.length e;rw[List.length_append,h.1,h'.1] at h1;exact qBY (by omega)
 rw[e,this,List.append_nil]
theorem body_no (hlt:bs.length<B64) (hb:bs=pts pre++rest) (hn:pre.length<n) (hno:¬∃m j,HasPart rest m j):¬∃xss,Body bs n xss:=by
 rintro⟨xss,h1,h2⟩;exact no_part hb (by omega) hlt h2 (qHR pre xss rest bs hb h2 hlt (by omega)) hno
theorem qMV (hlt:bs.length<B64) (hb:bs=pts pre++rest) (hn:pre.length=n) (hno:rest≠[]):¬∃xss,Body bs n xss:=by
 rintro⟨xss,h1,h2⟩;obtain⟨more,e⟩:=qHR pre xss rest bs hb h2 hlt (by omega);have:more=[]:=by
  have h3:=congrArg List.length e;rw[List.length_append,h1,hn] at h3;exact qBY (by omega)
 subst this;rw[List.append_nil] at e;subst e
 apply hno
 have:=hb.symm.trans h2;simpa using this
def IsJoin (xs:List Nat) (most:Int) (xss:List (List Nat)):Prop:=xs=joinB xss∧(xss.length:Int)≤most
theorem qIp (hv:IsVar xs n k) (hm:(n:Int)≤most) (h:Body (xs.drop k) n xss):IsJoin xs most xss:=by
 refine⟨?_,by rw[h.1];exact hm⟩;rw[joinB,h.1,←hv.2.1,←h.2,List.take_append_drop]
theorem qNr (hlt:(joinB xss).length<B64):xss.length<B64:=by
 have:=qFi xss;rw[qCd] at hlt
 omega
theorem qDv (hlt:xs.length<B64) (h:xs=joinB xss):IsVar xs xss.length (vb xss.length).length∧Body (xs.drop (vb xss.length).length) xss.length xss:=by
 subst h;refine⟨qCB _ (qNr hlt) _,rfl,?_⟩;rw[joinB,List.drop_left]
theorem qDw {yss:List (List Nat)} (hlt:xs.length<B64) (h:xs=joinB xss) (h':xs=joinB yss):xss=yss:=by
 obtain⟨a1,a2⟩:=qDv hlt h;obtain⟨b1,b2⟩:=qDv hlt h';obtain⟨e1,e2⟩:=qCF a1 b1;rw[←e1] at b2;exact qJD qK a2 b2
theorem qIX (hlt:xs.length<B64) (hv:¬∃v n,IsVar xs v n):¬∃xss,IsJoin xs most xss:=by
 rintro⟨xss,h,_⟩;exact hv ⟨_,_,(qDv hlt h).1⟩
theorem qEY (hlt:xs.length<B64) (hv:IsVar xs n k) (hm:most<(n:Int)):¬∃xss,IsJoin xs most xss:=by
 rintro⟨xss,h,h2⟩;obtain⟨e,_⟩:=qCF hv (qDv hlt h).1
 omega
theorem qEZ (hlt:xs.length<B64) (hv:IsVar xs n k) (hb:¬∃xss,Body (xs.drop k) n xss):¬∃xss,IsJoin xs most xss:=by
 rintro⟨xss,h,h2⟩;obtain⟨a1,a2⟩:=qDv hlt h;obtain⟨e1,e2⟩:=qCF hv a1;rw[←e2,←e1] at a2;exact hb ⟨xss,a2⟩
def refB (k:Int):Bool:=k==2 || k==3 || k==4 || k==6 || k==7
def goodB (k n r:Int):Bool:=if k=1∨k=2∨k=3∨k=7 then n==0 else if k=4 then decide (0≤n∧n<r) else if k=5 then decide (0≤n∧n<4) else false
def subB (a b c d:Int):Bool:=(a==c && b==d) || c==8 || (refB a && refB c && (a==6 || c==7))
def joinK (a b c d:Int):Int:=if subB a b c d then c else if subB c d a b then a else if refB a && refB c then 7 else 8
def joinN (a b c d:Int):Int:=if subB a b c d then d else if subB c d a b then b else 0
theorem or128 (u:Nat):bits .or .u8 ((u:Int) % 256) 128=((u % 128+128:Nat):Int):=by
 have h:=u8_or_nat (u % 256) 128 (by omega) (by omega);have h3:(u % 256) ||| 128=u % 128+128:=by
  have e:u % 256=u % 128∨u % 256=128+u % 128:=by omega
  have j:128 ||| u % 128=128+u % 128:=nat_join 7 128 (u % 128) (by omega) (by omega);rcases e with e|e
  · rw[e,Nat.or_comm,j];omega
  · rw[e,←j,Nat.or_assoc,Nat.or_comm (u % 128),←Nat.or_assoc,Nat.or_self,j];omega
 rw[h3] at h;rw[←h]
 congr 1
theorem qCD (v:Nat) (w:World) (hv:v<B64):
 Calls Tryz.prog 178 #[.int .u64 (v:Nat)] w fun e w'=>∃u,e= .returned u∧w'.ownsRow w.heap.size 5 1 u (vb v).length (Bs (vb v))∧Below w.heap.size w w':=by
 have HV0:=hv
 go_enter Tryz.func178,Tryz.ntmps178
 go_wp2
 go_loopw [0,3] (fun x o wr=>∃(u:Nat) (pre:List Nat),x= .int .u64 (u:Nat)∧wr.ownsRow w.heap.size 5 1 o pre.length (Bs pre)∧vb v=pre++vb u∧u<B64∧Below w.heap.size w wr) (fun x _ _=>(intOf x).toNat)
 case atStart=>exact⟨v,[],rfl,World.ownsRow_nil _ _ _ _,by simp,hv,qBO _ _⟩
 case round=>
  obtain⟨u,pre,rfl,hown,hvb,hu,hbel⟩:=hrel;have HV:=qBK hvb;have HO:=qBK hown;have HU:=qBK hu;clear hvb hown hu hv;have hlen:pre.length+(vb u).length≤10:=by
   have h1:=qCq 9 v (by unfold B64 at HV0;omega);rw[HV.out] at h1;simpa using h1
  have hpos:=qFU u
  by_cases hlt:u<128
  · have h1:(decide ((128:Int)≤(u:Int)))=false:=by simp;omega
    go_wp2_with (at_builtin
                 refine qBr _ rfl (.tmp 14) (.tmp 17) rfl w.heap.size u3 pre.length pre rfl (HO.out.alloc _) (some ⟨wr.heap.size,0,none⟩) 1 1 [u] rfl rfl (·=wr.heap.size) (qLD wr _ u rfl) (by omega) (by have:=hbel.size;simp;omega) ?_;intro v1 w1 hown1 hg1 _)
    go_ret;refine⟨v1,rfl,?_,(hbel.alloc hbel.size _).grown hg1 (by have:=hbel.size;simp;omega) (fun k hk=>(HO.out.lt k hk).1)⟩;rw[HV.out,qCI u hlt];simpa using hown1
  · have h1:(decide ((128:Int)≤(u:Int)))=true:=by simp;omega
    go_wp2_with (at_builtin
                 refine qBr _ rfl (.tmp 6) (.tmp 10) rfl w.heap.size u3 pre.length pre rfl (HO.out.alloc _) (some ⟨wr.heap.size,0,none⟩) 1 1 [u % 128+128] rfl rfl (·=wr.heap.size) (qLD wr _ (u % 128+128) (or128 u)) (by omega) (by have:=hbel.size;simp;omega) ?_;intro v1 w1 hown1 hg1 _)
    go_roundw
    case rel=>
     refine⟨u / 128,pre++[u % 128+128],by simp,by simpa using hown1,?_,by have:=HU.out;omega,(hbel.alloc hbel.size _).grown hg1 (by have:=hbel.size;simp;omega) (fun k hk=>(HO.out.lt k hk).1)⟩;rw[HV.out,qDG u hlt];simp
    case measure=>simp[intOf];omega
theorem qE2 (w:World) {ops:Array Oper} {o:Oper} {a:Act} {K:Act→World→Prop} {Q:Exit→Act→World→Prop} (hgd:o.guard=none) (s x:Operand)
 (ho:o.op= .call {callee:= .builtin .append,args:= #[s,x],argTypes:= #[76,76]})
 (base:Nat) (v:Value) (n:Nat) (xs:List Nat) (hs:a.eval s=v) (hown:w.ownsRow base 5 1 v n (Bs xs)) (A:Option Addr) (m c:Nat) (ys:List Nat) (hx:a.eval x= .slice A m c) (hm:ys.length=m)
 (S:Nat→Prop) (hy:Byt S w A ys) (hbig:n+m≤140737488355328) (hbase:base≤w.heap.size)
 (h:∀v' w',w'.ownsRow base 5 1 v' (n+m) (Bs (xs++ys))→w.grownBy w' v.ownBlock→(v'.ownBlock=v.ownBlock∨v'.ownBlock=some w.heap.size)→K (a.put o.dst v') w'):
 if Region.wanted o (yielded ops a.tmps)=true then Oper.wp Tryz.prog o a w K Q else E:=by
 have hw:Region.wanted o (yielded ops a.tmps)=true:=by simp[Region.wanted,hgd]
 rw[if_pos hw];obtain⟨v',w',hrun,h2,h3,h4⟩:=qDL w base o.type v n xs hown A m c ys hm S hy hbig hbase;unfold Oper.wp execOp;simp only[ho,resolve,invoke,builtin,Sem.run_bind,Sem.run_pure,Result.andThen_ok,List.map_toArray,List.map_cons,List.map_nil,hs,hx,hrun];exact h v' w' h2 h3 h4
theorem qKk (s x:Operand) (t:TypeId) {d:Option Tmp} {p:String} {af:Array Edge} {g:Option (Nat×Bool)} {y:Nat→Option Bool} {inst:Decidable (Region.wanted ⟨d,.call ⟨.builtin .append,#[s,x],#[t,t]⟩,ty,p,af,g⟩ y=true)} {W:Prop} 
 (h: @ite Prop (Region.wanted ⟨d,.call ⟨.builtin .append,#[s,x],#[t,t]⟩,ty,p,af,g⟩ y=true) inst W E): @ite Prop (Region.wanted ⟨d,.call ⟨.builtin .append,#[s,x],#[t,t]⟩,ty,p,af,g⟩ y=true) inst W E:=h
theorem qD3 (f:Nat) {d:Option Tmp} {ar:Array Operand} {at':Array TypeId} {p:String} {af:Array Edge} {g:Option (Nat×Bool)} {y:Nat→Option Bool} {inst:Decidable (Region.wanted ⟨d,.call ⟨.value (.func f),ar,at'⟩,ty,p,af,g⟩ y=true)} {W:Prop} 
 (h: @ite Prop (Region.wanted ⟨d,.call ⟨.value (.func f),ar,at'⟩,ty,p,af,g⟩ y=true) inst W E): @ite Prop (Region.wanted ⟨d,.call ⟨.value (.func f),ar,at'⟩,ty,p,af,g⟩ y=true) inst W E:=h
theorem qC5 {b b':Nat} {xs:List Value} (h:w.ownsRow b 5 1 v n xs) (hb:b'≤b):w.ownsRow b' 5 1 v n xs:=by
 refine⟨h.1,?_⟩;rcases h.2 with h|⟨g',cap,cur,e,hb2,rest⟩
 · exact .inl h
 · exact .inr ⟨g',cap,cur,e,qBZ hb hb2,rest⟩
theorem own_nil (w:World) (b:Nat):w.ownsRow b 5 1 (.slice none 0 0) 0 (Bs []):=⟨rfl,.inl ⟨rfl,rfl⟩⟩
def typB (k n:Int):List Nat:=vb k.toNat++vb n.toNat
theorem qMh (k n:Int) (hk:k≤9223372036854775807) (hn:n≤9223372036854775807):(typB k n).length≤20:=by
 have h1:=qCq 9 k.toNat qK;have h2:=qCq 9 n.toNat qK;simp[typB]
 omega
theorem qEH (n:Int) (w:World) (h: -9223372036854775808≤n∧n≤9223372036854775807):
 Calls Tryz.prog 231 #[.int .i64 n] w fun e w'=>∃u,e= .returned u∧w'.ownsRow w.heap.size 5 1 u (vb n.toNat).length (Bs (vb n.toNat))∧Below w.heap.size w w':=by
 by_cases h0:0≤n
 · obtain⟨m,rfl⟩:∃m:Nat,n=(m:Int):=⟨n.toNat,by omega⟩
   have hm:m<B64:=by unfold B64;omega
   go_enter Tryz.func231,Tryz.ntmps231
   go_wp2_with (first|(go_at_call 178;refine(qCD m _ hm).mono ?_;rintro e w1 ⟨u,rfl,hown,hb⟩))
   go_ret;exact⟨_,rfl,hown,hb⟩
 · go_enter Tryz.func231,Tryz.ntmps231
   go_wp2_with (first|(go_at_call 178;refine(qCD 0 _ qp).mono ?_;rintro e w1 ⟨u,rfl,hown,hb⟩))
   go_ret;have e:n.toNat=0:=by omega
   rw[e];exact⟨_,rfl,hown,hb⟩
theorem kput (k n:Int) (w:World) (hk: -9223372036854775808≤k∧k≤9223372036854775807) (hn: -9223372036854775808≤n∧n≤9223372036854775807):
 Calls Tryz.prog 180 #[.agg #[.int .i64 k,.int .i64 n]] w fun e w'=>∃u,e= .returned u∧w'.ownsRow w.heap.size 5 1 u (typB k n).length (Bs (typB k n))∧Below w.heap.size w w':=by
 have PK:=qBK (fun w=>qEH k w hk);have PN:=qBK (fun w=>qEH n w hn);have hl:(vb k.toNat).length+(vb n.toNat).length≤140737488355328:=by
  have:=qMh k n hk.2 hn.2;simp[typB] at this
  omega
 clear hk hn
 go_enter Tryz.func180,Tryz.ntmps180
 go_wp2_with fail
 refine qBV fun W hW=> ?_;have c0:W.cell? ⟨w.heap.size,0,none⟩=some (.int .i64 k):=by rw[hW];simp[go_sem]
 have c1:W.cell? ⟨w.heap.size,1,none⟩=some (.int .i64 n):=by rw[hW];simp[go_sem]
 refine jp ?_;intro HB0;have hs:w.heap.size<W.heap.size:=by rw[hW];simp
 clear hW;have C1:=qBK c1
 go_region_law (first
  |(with_reducible refine qKk (.tmp 5) (.tmp 8) 76 ?_
    refine qE2 _ rfl (.tmp 5) (.tmp 8) rfl W.heap.size u1 (vb k.toNat).length (vb k.toNat) rfl HO1.out A2 (vb n.toNat).length c2 (vb n.toNat) rfl rfl _ HY2.out hl HS2.out ?_;intro v3 w3 hown3 hg3 _;have HO3:=qBK hown3;have HB3:=qBK (HB2.out.grown hg3 HS2.out (fun i hi=>(HO1.out.lt i hi).1));clear hown3 hg3)
  |(with_reducible refine qD3 231 ?_
    go_simp
    go_at_call 231
    with_reducible refine(PK.out _).mono ?_
    rintro e w1 ⟨u1,rfl,hown1,hb1⟩;have HP1:=qBK hown1;have HB1:=qBK (hb1.mono (qBL W.heap.size));have hcell1:w1.cell? ⟨w.heap.size,1,none⟩=some (.int .i64 n):=(hb1.cell (p:=⟨w.heap.size,1,none⟩) hs).trans C1.out;clear hown1 hb1)
  |(with_reducible refine qD3 231 ?_
    go_simp
    go_at_call 231
    with_reducible refine(PN.out _).mono ?_
    rintro e w2 ⟨u2,rfl,hown2,hb2⟩;obtain⟨A2,c2,rfl,-,-,-,hY2⟩:=qBu hown2;have HY2:=qBK hY2;refine jl ?_;intro HB2;have HO1:=qBK (qCa HP1.out hb2 (qBL _));have HS2:=qBK HB2.out.size;clear hown2 hY2 hb2))
 all_goals
  go_wp2_with fail
  go_ret;refine⟨_,rfl,?_,HB0.out.drew.trans (HB3.out.mono HB0.out.size)⟩;rw[show(typB k n).length=(vb k.toNat).length+(vb n.toNat).length by simp[typB]];exact qC5 HO3.out HB0.out.size
abbrev Ins:=Int×Int×Int
def i3 (t:Ins):List Value:=[.int .i64 t.1,.int .i64 t.2.1,.int .i64 t.2.2]
def I3:List Ins→List Value
 |[]=>[]
 |t::ts=>i3 t++I3 ts
def Iss (S:Nat→Prop) (w:World) (A:Option Addr) (ts:List Ins):Prop:=
 0<ts.length→∃a,A=some a∧S a.block∧∀j,j<ts.length→
  w.cell? (a.add (j*3))=some (.int .i64 (ts[j]?.getD (0,0,0)).1)∧w.cell? (a.add (j*3+1))=some (.int .i64 (ts[j]?.getD (0,0,0)).2.1)∧w.cell? (a.add (j*3+2))=some (.int .i64 (ts[j]?.getD (0,0,0)).2.2)
theorem Iss.nil (S:Nat→Prop) (w:World) (A:Option Addr):Iss S w A []:=fun h=>absurd h (by simp)
theorem Iss.keep {ts:List Ins} (h:Iss S w A ts) (hk:∀b,S b→w'.heap[b]? =w.heap[b]?):Iss S w' A ts:=fun hn=>by
 obtain⟨a,e,hs,hc⟩:=h hn;refine⟨a,e,hs,fun j hj=> ?_⟩;obtain⟨h0,h1,h2⟩:=hc j hj;exact⟨(qBd (hk _ zv)).trans h0,(qBd (hk _ zv)).trans h1,(qBd (hk _ zv)).trans h2⟩
theorem Iss.wide {T:Nat→Prop} {ts:List Ins} (h:Iss S w A ts) (hk:∀b,S b→T b):Iss T w A ts:=fun hn=>by
 obtain⟨a,e,hs,hc⟩:=h hn;exact⟨a,e,hk _ hs,hc⟩
theorem Iss.below {B B':Nat} {ts:List Ins} (h:Iss (·<B) w A ts) (hb:Below B' w w') (hB:B≤B'):Iss (·<B) w' A ts:=h.keep fun b h1=>hb.block b (qBN h1 hB)
theorem Iss.at {ts:List Ins} (h:Iss S w A ts) (hk:k<ts.length):
 ∃a,A=some a∧S a.block∧w.cell? (a.add (k*3))=some (.int .i64 (ts[k]?.getD (0,0,0)).1)∧w.cell? (a.add (k*3+1))=some (.int .i64 (ts[k]?.getD (0,0,0)).2.1)∧w.cell? (a.add (k*3+2))=some (.int .i64 (ts[k]?.getD (0,0,0)).2.2):=by
 obtain⟨a,e,hs,hc⟩:=h (by omega);exact⟨a,e,hs,hc k hk⟩
def le:List Nat→Nat
 |[]=>0
 |x::xs=>x+256*le xs
theorem le_lt (xs:List Nat) (h:∀x∈xs,x<256):le xs<256 ^ xs.length:=by
 induction xs with
 |nil=>simp[le]
 |cons x xs ih=>
  have h1:=ih fun y hy=>h y (by simp[hy]);have h2:=h x (by simp);simp only[le,List.length_cons,Nat.pow_succ]
  omega
theorem qMF (xs:List Nat) (m:Nat) (h:m<xs.length):xs.drop m=(xs[m]?.getD 0)::xs.drop (m+1):=by
 rw[List.drop_eq_getElem_cons h];simp[h]
theorem pow_le7 (k:Nat) (h:k≤7):256 ^ k≤72057594037927936:=by
 have:256 ^ k≤256 ^ 7:=Nat.pow_le_pow_right (by omega) h;simpa using this
def fb (v m:Nat):List Nat:=(List.range m).map fun j=>v / 256 ^ j % 256
theorem qDT (v m:Nat):(fb v m).length=m:=by simp[fb]
theorem fb_succ (v m:Nat):fb v (m+1)=fb v m++[v / 256 ^ m % 256]:=by simp[fb,List.range_succ]
theorem qOS (v m:Nat):∀x∈fb v m,x<256:=by
 intro x hx;obtain⟨j,_,rfl⟩:=List.mem_map.1 hx
 omega
theorem le_snoc (xs:List Nat) (y:Nat):le (xs++[y])=le xs+y*256 ^ xs.length:=by
 induction xs with
 |nil=>simp[le]
 |cons x xs ih=>
  simp only[List.cons_append,le,ih,List.length_cons,Nat.pow_succ,Nat.mul_add,Nat.add_assoc]
  congr 2
  rw[Nat.mul_comm 256,Nat.mul_assoc]
theorem le_fb (v m:Nat):le (fb v m)=v % 256 ^ m:=by
 induction m with
 |zero=>simp[fb,le,Nat.mod_one]
 |succ m ih=>rw[fb_succ,le_snoc,ih,qDT,Nat.pow_succ,Nat.mod_mul,Nat.mul_comm (256 ^ m)]
def wid (n:Int):Nat:=min n.toNat 8
theorem qMe (n:Int):wid n≤8:=by unfold wid;omega
theorem qGU (n:Int) (w:World):Calls Tryz.prog 235 #[.int .i64 n] w fun e w'=>e= .returned (.int .i64 (wid n:Nat))∧w=w':=by
 go_enter Tryz.func235,Tryz.ntmps235
 go_wp2
 all_goals
  go_ret;exact⟨qHP (by unfold wid;omega),rfl⟩
end Go.Proofs.YtgdbhanhmenmfaaGreat
