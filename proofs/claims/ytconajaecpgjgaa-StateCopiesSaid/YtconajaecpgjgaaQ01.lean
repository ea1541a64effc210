/-
W0 On0 Wds Math Ow0 Ly Bk0 Raw Loe Jf Kwo Ho Hn
-/
import Derived.Test.YtconajaecpgjgaaProg
import Derived.Test.YtconajaecpgjgaaRows
import Derived.WalkKit
import Derived.WalkSpells
import Derived.WalkLawsBesides
import Derived.Maps.AppendAt
import Derived.Deep.Draws
import Derived.Lib.Hide
import Derived.OpenShut
import Derived.Laws.BitsAllLaws
import Derived.Laws.Bits64
import Derived.ProofKit
import Derived.ShutString
import Derived.Deep.Slices
import Derived.Deep.RegionLaw
import Derived.Laws.OwnMore
set_option linter.unusedSimpArgs false
set_option linter.unusedVariables false
set_option maxRecDepth 100000
namespace Go.Proofs.Ytconajaecpgjgaa
open Go.RowKit
theorem zL {p:Prop} (h:p):Hid p:=Lib.hid h
theorem zM {α:Type _} {l:List α} {i:Nat} (h:i<l.length):l[i]? =some l[i]:=List.getElem?_eq_getElem h
theorem zP {n m k:Nat}:n<m→m≤k→n<k:=Nat.lt_of_lt_of_le
theorem zQ (n:Nat):n≤n:=Nat.le_refl n
theorem zR {α:Type _} {i:Nat} {a:α} {l:List α}:l[i]? =some a↔∃h:i<l.length,l[i]=a:=List.getElem?_eq_some_iff
theorem zS (B:Nat) (w:World):Below B w w:=Below.refl B w
theorem zT {α:Type _} {l:List α} {i:Nat} {a:α} (e:l[i]? =some a):a∈l:=List.mem_of_getElem? e
theorem zU {α:Type _} {i:Nat} {l:List α} (h:l.length≤i):List.take i l=l:=List.take_of_length_le h
theorem zW (w:World) (a:Addr) {u:Value} (h:w.cell? a=some u):a.block<w.heap.size:=World.block_lt_of_cell? w a h
theorem zX (w:World) (a:Addr) (u:Value) (k:Nat) (h:k≠a.block):(w.setCell a u).heap[k]? =w.heap[k]?:=Below.heap_setCell w a u k h
theorem zY (n:Nat):0≤n:=Nat.zero_le n
theorem zZ {w w':World} {a:Addr} (h:w'.heap[a.block]? =w.heap[a.block]?):w'.cell? a=w.cell? a:=World.cell?_of_block h
theorem za {α:Type _} {i:Nat} {l:List α} (h:i<l.length):List.take (i+1) l=List.take i l++[l[i]]:=List.take_succ_eq_append_getElem h
theorem zd (w:World) (o:Obj) (k:Nat) (h:k<w.heap.size):(w.alloc o).heap[k]? =w.heap[k]?:=Below.heap_alloc w o k h
theorem ze {α:Type _} {a:α} {l:List α}:a∈l↔∃i:Nat,l[i]? =some a:=List.mem_iff_getElem?
theorem zp {n m k:Nat}:n≤m→m≤k→n≤k:=Nat.le_trans
theorem z7 {α:Type _} {l:List α}:l.length=0→l=[]:=List.eq_nil_of_length_eq_zero
theorem qH {P:Prop} (h:P:=by
 refine⟨⟨k+1,by omega,by simp,⟨q++y,?_,?_,?_⟩,Hb2.out.grown HG4.out (by omega) (fun i hi=>(HO2.out.lt i hi).1)⟩,by simp[intOf];omega⟩
 · rw[HF.out,HQ.out,HY.out]
   simp[List.append_assoc]
 · simp[List.length_append]
   omega
 · rw[List.length_append]
   exact HO4.out):P:=h
theorem qI {P:Prop} (h:P:=by rw[zh];exact hab):P:=h
theorem qL {P:Prop} (h:P:=by
 refine⟨0,zY _,rfl,⟨_,rfl,?_,?_⟩,HB1.out⟩
 · have:=HN.out
   simp only[lB,List.length_append,HL.out] at this
   simp
   omega
 · simpa using HO1.out):P:=h
theorem qQ {P:Prop} (h:P:=by rw[HL.out];exact zQ _):P:=h
theorem qR {P:Prop} (h:P:=by rw[HL.out];exact hlt):P:=h
theorem qT {P:Prop} (h:P:=by simp;omega):P:=h
theorem qV {P:Prop} (h:P:=by refine⟨⟨k+1,by omega,by simp,qDT HA.out HX.out HG.out,Hb2.out⟩,by simp[intOf];omega⟩):P:=h
theorem qY {P:Prop} (h:P:=by decide):P:=h
theorem qa {P:Prop} (h:P:=by refine⟨⟨k+1,by omega,by simp,qDR HA.out HX.out HG.out,Hb2.out⟩,by simp[intOf];omega⟩):P:=h
theorem qc {P:Prop} (h:P:=by have:=HBwV.out.size;omega):P:=h
theorem qd {P:Prop} (h:P:=by assumption):P:=h
theorem qg {P:Prop} (h:P:=by have:=Z0'.out;have:=ZXw.out;omega):P:=h
theorem qh {P:Prop} (h:P:=by exact⟨none,0,by rw[h0],by omega,by simp[maxLen],fun hpos=>absurd hpos (by omega)⟩):P:=h
theorem qk {P:Prop} (h:P:=by show Blk _ _ _ _;rw[hXb];exact zl rfl):P:=h
theorem ql {P:Prop} (h:P:=by
 rw[jz (fun e=>HNM.out (by rw[←HL.out,←HM.out,e]))]
 rfl):P:=h
theorem qn {P:Prop} (h:P:=by rw[zh];exact hbb):P:=h
theorem qo {P:Prop} (h:P:=by have:=Z0'.out;have:=ZXb.out;have:=ZXw.out;have:=Z9.out;omega):P:=h
theorem qp {P:Prop} (h:P:=by have:=Z0'.out;have:=ZXw.out;have:=Z9.out;have:=ZXb.out;omega):P:=h
theorem qr {P:Prop} (h:P:=by have:=Z0'.out;have:=ZXw.out;have:=ZXb.out;have:=Z9.out;omega):P:=h
theorem qs {P:Prop} (h:P:=by exact AllReadyH.nil):P:=h
theorem qw {P:Prop} (h:P:=by
 have e:=HE.out
 rw[zU qQ,zU (by rw[HM.out];exact zQ _)] at e
 rw[e,z9]
 rfl):P:=h
theorem qx {P:Prop} (h:P:=by
 obtain⟨a1,rfl,hS1,y1,hy1⟩:=num_cell HWO.out hy
 obtain⟨y2,hy2⟩:=HTg.out.num hy1
 have hf2:wg.frozen? (a1.add j)=false:=new_cell (by rw[zh];exact hS1) HTg.out
 have j1:(j:Int)<(l0:Int):=by omega
 exact qS):P:=h
theorem q5 {P:Prop} (h:P:=by
 obtain⟨y2,hy2⟩:=HTg.out.num hy1
 have hf2:wg.frozen? (a1.add j)=false:=new_cell (by rw[zh];exact hS1) HTg.out
 have j1:(j:Int)<(l1:Int):=by omega
 exact qS):P:=h
theorem q6 {P:Prop} (h:P:=by exact HS5.out _ (B0'.out.alloc (by have:=Z0'.out;omega) _)):P:=h
theorem q7 {P:Prop} (h:P:=by have:=Z0'.out;have:=ZXb.out;have:=ZXw.out;omega):P:=h
theorem q8 {P:Prop} (h:P:=by have:=Z0'.out;have:=ZXw.out;have:=ZXb.out;omega):P:=h
theorem q9 {P:Prop} (h:P:=by have:=Z0'.out;omega):P:=h
theorem zA {P:Prop} (h:P:=by have:=Z0'.out;have:=ZXw.out;have:=Z9.out;omega):P:=h
theorem zB {P:Prop} (h:P:=by
 have hi:i<L.k:=by rw[←L.len hr];exact(zR.1 hu).1
 exact hown.cells rfl (j*L.k+i) u (by rw[jP hk hcs i hi];exact hu)):P:=h
theorem zC {P:Prop} (h:P:=by
 simp at h
 exact⟨k.toNat,n.toNat,by ext<;>simp<;>omega,by omega,by omega⟩):P:=h
theorem zD {P:Prop} (h:P:=by show Blk _ _ _ _;rw[hXw];exact zl rfl):P:=h
theorem zE {P:Prop} (h:P:=by injection e with e;have:=M9.out b hb;have:=(O9.out.lt b hb).2;have:=Z0'.out;have:=ZXb.out;have:=ZXw.out;have:=Z9.out;omega):P:=h
theorem zG {P:Prop} (h:P:=by injection e with e;have:=M9.out b hb;have:=(O9.out.lt b hb).2;have:=Z0'.out;have:=ZXw.out;have:=Z9.out;have:=ZXb.out;omega):P:=h
theorem zH {P:Prop} (h:P:=by injection e with e;have:=M9.out b hb;have:=(O9.out.lt b hb).2;have:=Z0'.out;have:=ZXw.out;have:=ZXb.out;have:=Z9.out;omega):P:=h
theorem zI {P:Prop} (h:P:=by rw[zh];exact hs):P:=h
theorem zJ {P:Prop} (h:P:=by show _=_;rw[hXb];simp):P:=h
theorem trn {B:Nat} {a b c:World} (h:Below B a b) (k:Below b.heap.size b c) (hB:B=a.heap.size:=by rfl):Below B a c:=h.trans (k.mono (by rw[hB];exact h.size))
theorem zh (a:Addr) (n:Nat):(a.add n).block=a.block:=by
 unfold Addr.add
 by_cases h:n=0<;>simp[h]
theorem qDU (a:Addr) (i j:Nat):(a.add i).add j=a.add (i+j):=by
 unfold Addr.add
 by_cases hi:i=0
 · simp[hi]
 · by_cases hj:j=0
   · simp[hi,hj]
   · simp[hi,hj,Nat.add_assoc]
def Blk (w:World) (g:Nat) (t:TypeId) (cs:Array Value):Prop:=w.heap[g]? =some (.cells cs t (0,0))
theorem Blk.lt {w:World} {g:Nat} {t:TypeId} {cs:Array Value} (h:Blk w g t cs):g<w.heap.size:=(Array.getElem?_eq_some_iff.1 h).1
theorem Blk.cell {w:World} {g:Nat} {t:TypeId} {cs:Array Value} (h:Blk w g t cs) (i:Nat):w.cell? ⟨g,i,none⟩=cs[i]? :=cell_of_row w g i cs t (0,0) h
theorem Blk.frozen {w:World} {g:Nat} {t:TypeId} {cs:Array Value} (h:Blk w g t cs) (i:Nat):w.frozen? ⟨g,i,none⟩=false:=by
 unfold Blk at h
 simp[World.frozen?,h]
theorem Blk.set {w:World} {g:Nat} {t:TypeId} {cs:Array Value} (h:Blk w g t cs) (i:Nat) (u:Value):Blk (w.setCell ⟨g,i,none⟩ u) g t (cs.setIfInBounds i u):=by
 unfold Blk at h⊢
 simp[World.setCell,Array.getElem?_modify,h]
theorem ret_int {k:IntKind} {a b:Int} (h:a=b):Ending.returned (.int k a)= .returned (.int k b):=by rw[h]
def Only (g:Nat) (w w':World):Prop:=w.grownBy w' (some g)
theorem qAv (g:Nat) (w:World):Only g w w:=⟨rfl,rfl,rfl,zQ _,fun _ _ _=>rfl⟩
theorem qB1 {g:Nat} {a b c:World} (h:Only g a b) (k:Only g b c):Only g a c:=
 ⟨k.os.trans h.os,k.tape.trans h.tape,k.output.trans h.output,zp h.size k.size,fun i hi hne=>(k.block i (zP hi h.size) hne).trans (h.block i hi hne)⟩
theorem qBY {g:Nat} {a b:World} (h:Only g a b) (i:Nat) (u:Value):Only g a (b.setCell ⟨g,i,none⟩ u):=
 qB1 h ⟨rfl,rfl,rfl,by simp[World.setCell],fun k _ hne=>zX _ _ _ _ (fun e=>hne (by rw[e]))⟩
def IsRow (k:IntKind) (w:World) (a:Option Addr) (len cap:Nat) (zs:List Int):Prop:=
 (a=none∧len=0∧cap=0∧zs=[])∨
 ∃x,a=some x∧len≤cap∧cap≤maxLen∧zs.length=cap∧(∀i,i<zs.length→w.cell? (x.add i)=some (.int k (zs.getD i 0)))∧∀n∈zs,(Lit.int k n).wf=true
open Go.ChangeShapes Go.WideShapes Go.ChangeAt Go.RowKit
theorem own:ownKnob Try.prog.godebug=none:=by kernel_rfl
theorem qCI:laidOutB Try.prog=true:=by kernel_rfl
def Bs (xs:List Nat):List Value:=xs.map fun x:Nat=>Value.int .u8 (x:Int)
theorem jY (xs:List Nat):(Bs xs).length=xs.length:=by simp[Bs]
theorem qBJ (xs:List Nat) (j:Nat) (h:j<xs.length):(Bs xs)[j]? =some (.int .u8 ((xs[j]?.getD 0:Nat):Int)):=by simp[Bs,h]
theorem qDV (xs ys:List Nat):Bs (xs++ys)=Bs xs++Bs ys:=by simp[Bs]
theorem Bs_one (xs:List Nat):∀u∈Bs xs,u.oneCell'=true:=by
 intro u hu
 obtain⟨x,_,rfl⟩:=List.mem_map.1 hu
 rfl
def Byt (S:Nat→Prop) (w:World) (A:Option Addr) (xs:List Nat):Prop:=
 0<xs.length→∃a,A=some a∧S a.block∧∀j,j<xs.length→w.cell? (a.add j)=some (.int .u8 ((xs[j]?.getD 0:Nat):Int))
theorem Byt.nil (S:Nat→Prop) (w:World) (A:Option Addr):Byt S w A []:=fun h=>absurd h (by simp)
theorem Byt.keep {S:Nat→Prop} {w w':World} {A:Option Addr} {xs:List Nat} (h:Byt S w A xs) (hk:∀b,S b→w'.heap[b]? =w.heap[b]?):Byt S w' A xs:=fun hn=>by
 obtain⟨a,e,hs,hc⟩:=h hn
 exact⟨a,e,hs,fun j hj=>(zZ (hk _ zI)).trans (hc j hj)⟩
theorem Byt.wide {S T:Nat→Prop} {w:World} {A:Option Addr} {xs:List Nat} (h:Byt S w A xs) (hk:∀b,S b→T b):Byt T w A xs:=fun hn=>by
 obtain⟨a,e,hs,hc⟩:=h hn
 exact⟨a,e,hk _ hs,hc⟩
theorem Byt.take {S:Nat→Prop} {w:World} {A:Option Addr} {xs:List Nat} (h:Byt S w A xs) (k:Nat):Byt S w A (xs.take k):=fun hn=>by
 have hl:(xs.take k).length≤xs.length:=by simp;omega
 obtain⟨a,e,hs,hc⟩:=h (by omega)
 refine⟨a,e,hs,fun j hj=> ?_⟩
 have hj':j<k:=by simp at hj;omega
 rw[hc j (by omega),List.getElem?_take_of_lt hj']
theorem Byt.at {S:Nat→Prop} {w:World} {A:Option Addr} {xs:List Nat} (h:Byt S w A xs) {k:Nat} (hk:k<xs.length):
 ∃a,A=some a∧S a.block∧w.cell? (a.add k)=some (.int .u8 ((xs[k]?.getD 0:Nat):Int)):=by
 obtain⟨a,e,hs,hc⟩:=h (by omega)
 exact⟨a,e,hs,hc k hk⟩
theorem zj {w:World} {base n:Nat} {v:Value} {xs:List Nat} (h:w.ownsRow base 5 1 v n (Bs xs)):
 ∃A c,v= .slice A n c∧n=xs.length∧n≤c∧c≤maxLen∧Byt (fun b=>base≤b∧b<w.heap.size) w A xs:=by
 have hn:n=xs.length:=by have:=h.1;rw[jY] at this;omega
 rcases h.2 with⟨rfl,h0⟩|⟨g,cap,cur,rfl,hb,hg,hnc,hcm,_,_⟩
 · refine⟨none,0,by rw[h0],hn,by omega,by simp[maxLen],fun hpos=>absurd hpos (by omega)⟩
 · refine⟨some ⟨g,0,none⟩,cap,rfl,hn,hnc,hcm,fun _=>⟨⟨g,0,none⟩,rfl,⟨hb,(Array.getElem?_eq_some_iff.1 hg).1⟩,fun j hj=> ?_⟩⟩
   exact h.cells rfl j _ (qBJ xs j hj)
theorem qAU:(Try.prog.info? 5).map (fun i=>(i.zero,i.size,i.bytes))=some (some (.int .u8 0),1,1):=by kernel_rfl
section
variable (w:World)
theorem jT (base ty:Nat) (v:Value) (n:Nat) (xs:List Nat) (hown:w.ownsRow base 5 1 v n (Bs xs)) (A:Option Addr) (m c:Nat) (ys:List Nat) (hm:ys.length=m)
 (S:Nat→Prop) (hy:Byt S w A ys) (hbig:n+m≤140737488355328) (hbase:base≤w.heap.size):
 ∃v' w',(Builtin.append_ #[35,35] ty #[v,.slice A m c]).run Try.prog w= .ok v' w'∧w'.ownsRow base 5 1 v' (n+m) (Bs (xs++ys))∧w.grownBy w' v.ownBlock∧
  (v'.ownBlock=v.ownBlock∨v'.ownBlock=some w.heap.size):=by
 obtain⟨i0,hi0,hz0,hz1,hz2⟩:=info_parts qAU
 rw[qDV]
 rcases A with _|a
 · have h0:m=0:=by
    rcases Nat.eq_zero_or_pos m with h|h
    · exact h
    · obtain⟨a,h,_⟩:=hy (by omega)
      cases h
   subst h0
   obtain rfl:ys=[]:=z7 hm
   refine⟨v,w,?_,by simpa[Bs] using hown,⟨rfl,rfl,rfl,zQ _,fun _ _ _=>rfl⟩,.inl rfl⟩
   have ht:=run_underlying (P:=Try.prog) (w:=w) Try.underlying35
   rcases hown.2 with⟨rfl,rfl⟩|⟨g,cap,cur,rfl,_,_,hnc,_⟩
   · simp[Builtin.append_,ht,sizeOf,typeInfo,hi0,Builtin.lenOf,Builtin.firstCells]
   · simp[Builtin.append_,ht,sizeOf,typeInfo,hi0,Builtin.lenOf,Builtin.firstCells,hnc,storeCells]
 · have hcells:∀j u,(Bs ys)[j]? =some u→w.cell? (a.add j)=some u:=by
    intro j u hu
    have hj:j<ys.length:=by
     rcases Nat.lt_or_ge j ys.length with h|h
     · exact h
     · rw[List.getElem?_eq_none (by rw[jY];omega)] at hu;cases hu
    obtain⟨a',e,_,hc⟩:=hy (by omega)
    injection e with e
    subst e
    rw[hc j hj,←hu,qBJ ys j hj]
   obtain⟨v',w',hrun,h2,h3,_,h5⟩:=run_append_own_at (P:=Try.prog) w base 35 ty 5 i0 (.int .u8 0) 1 1 Try.underlying35 hi0 hz0 hz1 hz2 rfl (by omega) v n (Bs xs) hown a m c (Bs ys) (by rw[jY];omega) hcells (Bs_one ys)
    (by simp only[maxLen];omega) (by omega) hbase
   exact⟨v',w',hrun,h2,h3,h5⟩
theorem zg {ops:Array Oper} {rest:List Oper} {o:Oper} {a:Act} {Q:Exit→Act→World→Prop} (hgd:o.guard=none) (s x:Operand)
 (ho:o.op= .call {callee:= .builtin .append,args:= #[s,x],argTypes:= #[35,35]})
 (base:Nat) (v:Value) (n:Nat) (xs:List Nat) (hs:a.eval s=v) (hown:w.ownsRow base 5 1 v n (Bs xs)) (A:Option Addr) (m c:Nat) (ys:List Nat) (hx:a.eval x= .slice A m c) (hm:ys.length=m)
 (S:Nat→Prop) (hy:Byt S w A ys) (hbig:n+m≤140737488355328) (hbase:base≤w.heap.size)
 (h:∀v' w',w'.ownsRow base 5 1 v' (n+m) (Bs (xs++ys))→w.grownBy w' v.ownBlock→(v'.ownBlock=v.ownBlock∨v'.ownBlock=some w.heap.size)→wpList Try.prog ops Q rest (a.put o.dst v') w'):
 wpList Try.prog ops Q (o::rest) a w:=by
 refine wpList_plain hgd fun _ hK=> ?_
 obtain⟨v',w',hrun,h2,h3,h4⟩:=jT w base o.type v n xs hown A m c ys hm S hy hbig hbase
 unfold Oper.wp execOp
 simp only[ho,resolve,invoke,builtin,Sem.run_bind,Sem.run_pure,Result.andThen_ok,List.map_toArray,List.map_cons,List.map_nil,hs,hx,hrun]
 exact hK _ _ (h v' w' h2 h3 h4)
end
theorem qCZ (w:World):(w.alloc (.cells #[] 5)).ownsRow w.heap.size 5 1 (.slice (some ⟨w.heap.size,0,none⟩) 0 0) 0 (Bs []):=
 World.ownsRow_made w #[] 0 (zQ _) (by simp[maxLen]) (by simp)
theorem qCN (w:World) (z:Int) (x:Nat) (h:z=(x:Int)):Byt (·=w.heap.size) (w.alloc (.cells #[.int .u8 z] 5)) (some ⟨w.heap.size,0,none⟩) [x]:=fun _=>
 ⟨_,rfl,rfl,fun j hj=>by
   obtain rfl:j=0:=by simp at hj;omega
   subst h
   exact cell_one_new _ _ _ 0 _ rfl⟩
theorem zo {w w':World} {base B:Nat} {v:Value} {n:Nat} {xs:List Value} (h:w.ownsRow base 5 1 v n xs) (hb:Below B w w') (hB:w.heap.size≤B):w'.ownsRow base 5 1 v n xs:=
 h.kept (w':=w') (row:=none) ⟨hb.os,hb.tape,hb.output,hb.size,fun k hk _=>hb.block k (by omega)⟩ (by cases v.ownBlock<;>simp)
theorem Byt.below {B B':Nat} {w w':World} {A:Option Addr} {xs:List Nat} (h:Byt (·<B) w A xs) (hb:Below B' w w') (hB:B≤B'):Byt (·<B) w' A xs:=h.keep fun b h1=>hb.block b (zP h1 hB)
def vb (v:Nat):List Nat:=if v<128 then [v] else (v % 128+128)::vb (v / 128)
termination_by v
decreasing_by omega
theorem j8 (v:Nat) (h:v<128):vb v=[v]:=by rw[vb,if_pos h]
theorem qBs (v:Nat) (h:¬v<128):vb v=(v % 128+128)::vb (v / 128):=by rw[vb,if_neg h]
theorem qBr (v:Nat):0<(vb v).length:=by
 by_cases h:v<128
 · rw[j8 v h];simp
 · rw[qBs v h];simp
theorem jL (k:Nat):∀v,v<128 ^ (k+1)→(vb v).length≤k+1:=by
 induction k with
 |zero=>intro v hv;rw[j8 v (by simpa using hv)];simp
 |succ k ih=>
  intro v hv
  by_cases h:v<128
  · rw[j8 v h];simp
  · rw[qBs v h,List.length_cons]
    have:v / 128<128 ^ (k+1):=Nat.div_lt_of_lt_mul (by rw[Nat.pow_succ] at hv;omega)
    have:=ih _ this
    omega
def sv:List Nat→Nat
 |[]=>0
 |x::r=>x % 128+128*sv r
def B64:Nat:=18446744073709551616
def IsVar (xs:List Nat) (v n:Nat):Prop:=n≤xs.length∧xs.take n=vb v∧v<B64
theorem IsVar.len {xs:List Nat} {v n:Nat} (h:IsVar xs v n):n=(vb v).length:=by
 rw[←h.2.1,List.length_take];have:=h.1;omega
theorem IsVar.pos {xs:List Nat} {v n:Nat} (h:IsVar xs v n):0<n:=by rw[h.len];exact qBr v
def More (xs:List Nat) (i:Nat):Prop:=i≤xs.length∧∀j,j<i→128≤xs[j]?.getD 0
theorem More.zero (xs:List Nat):More xs 0:=⟨zY _,fun j hj=>absurd hj (by omega)⟩
theorem More.succ {xs:List Nat} {i:Nat} (h:More xs i) (hi:i<xs.length) (hx:128≤xs[i]?.getD 0):More xs (i+1):=
 ⟨hi,fun j hj=>by rcases Nat.lt_or_ge j i with hji|hji;exact h.2 j hji;obtain rfl:j=i:=by omega
                  exact hx⟩
theorem qAZ (w:World) (t:TypeId) (cs:Array Value):Blk (w.alloc (.cells cs t)) w.heap.size t cs:=heap_alloc_new w _
structure Lay (α:Type) where
 k:Nat
 R:(Nat→Prop)→World→List Value→α→Prop
 len:∀{S w cs x},R S w cs x→cs.length=k
 keep:∀{S:Nat→Prop} {w w':World} {cs:List Value} {x:α},R S w cs x→(∀b,S b→w'.heap[b]? =w.heap[b]?)→R S w' cs x
 wide:∀{S T:Nat→Prop} {w:World} {cs:List Value} {x:α},R S w cs x→(∀b,S b→T b)→R T w cs x
 one:∀{S w cs x},R S w cs x→∀u∈cs,u.oneCell'=true
def Sq {α:Type} (L:Lay α) (S:Nat→Prop) (w:World) (A:Option Addr) (xs:List α):Prop:=
 0<xs.length→∃a,A=some a∧S a.block∧∀j x,xs[j]? =some x→∃cs,(∀i u,cs[i]? =some u→w.cell? (a.add (j*L.k+i))=some u)∧L.R S w cs x
theorem Sq.nil {α:Type} (L:Lay α) (S:Nat→Prop) (w:World) (A:Option Addr):Sq L S w A []:=fun h=>absurd h (by simp)
theorem Sq.keep {α:Type} {L:Lay α} {S:Nat→Prop} {w w':World} {A:Option Addr} {xs:List α} (h:Sq L S w A xs) (hk:∀b,S b→w'.heap[b]? =w.heap[b]?):Sq L S w' A xs:=fun hn=>by
 obtain⟨a,e,hs,hc⟩:=h hn
 refine⟨a,e,hs,fun j x hx=> ?_⟩
 obtain⟨cs,h1,h2⟩:=hc j x hx
 exact⟨cs,fun i u hu=>(zZ (hk _ zI)).trans (h1 i u hu),L.keep h2 hk⟩
theorem Sq.wide {α:Type} {L:Lay α} {S T:Nat→Prop} {w:World} {A:Option Addr} {xs:List α} (h:Sq L S w A xs) (hk:∀b,S b→T b):Sq L T w A xs:=fun hn=>by
 obtain⟨a,e,hs,hc⟩:=h hn
 refine⟨a,e,hk _ hs,fun j x hx=> ?_⟩
 obtain⟨cs,h1,h2⟩:=hc j x hx
 exact⟨cs,h1,L.wide h2 hk⟩
theorem Sq.below {α:Type} {L:Lay α} {B B':Nat} {w w':World} {A:Option Addr} {xs:List α} (h:Sq L (·<B) w A xs) (hb:Below B' w w') (hB:B≤B'):Sq L (·<B) w' A xs:=h.keep fun b h1=>hb.block b (zP h1 hB)
theorem Sq.at {α:Type} {L:Lay α} {S:Nat→Prop} {w:World} {A:Option Addr} {xs:List α} (h:Sq L S w A xs) {k:Nat} {x:α} (hk:xs[k]? =some x):
 ∃a cs,A=some a∧S a.block∧(∀i u,cs[i]? =some u→w.cell? (a.add (k*L.k+i))=some u)∧L.R S w cs x:=by
 obtain⟨a,e,hs,hc⟩:=h (by have:=(zR.1 hk).1;omega)
 obtain⟨cs,h1,h2⟩:=hc k x hk
 exact⟨a,cs,e,hs,h1,h2⟩
def slL {α:Type} (L:Lay α):Lay (List α) where
 k:=1
 R S w cs xs:=∃A c,cs=[.slice A xs.length c]∧xs.length≤c∧c≤maxLen∧Sq L S w A xs
 len:=by rintro S w cs x ⟨A,c,rfl,_⟩;rfl
 keep:=by rintro S w w' cs x ⟨A,c,rfl,h1,h2,h3⟩ hk;exact⟨A,c,rfl,h1,h2,h3.keep hk⟩
 wide:=by rintro S T w cs x ⟨A,c,rfl,h1,h2,h3⟩ hk;exact⟨A,c,rfl,h1,h2,h3.wide hk⟩
 one:=by rintro S w cs x ⟨A,c,rfl,_⟩ u hu;simp at hu;subst hu;rfl
def I64 (n:Int):Prop:= -9223372036854775808≤n∧n≤9223372036854775807
def numL:Lay Nat where
 k:=1
 R _ _ cs n:=cs=[.int .u64 (n:Int)]∧n<B64
 len:=by rintro S w cs x ⟨rfl,_⟩;rfl
 keep:=by rintro S w w' cs x h _;exact h
 wide:=by rintro S T w cs x h _;exact h
 one:=by rintro S w cs x ⟨rfl,_⟩ u hu;simp at hu;subst hu;rfl
def Owns {α:Type} (L:Lay α) (ty base:Nat) (w:World) (v:Value) (xs:List α):Prop:=
 ∃css:List (List Value),css.length=xs.length∧w.ownsRow base ty L.k v xs.length css.flatten∧
  ∀(j:Nat) (x:α) (cs:List Value),xs[j]? =some x→css[j]? =some cs→L.R (fun b=>base≤b∧b<w.heap.size∧v.ownBlock≠some b) w cs x
theorem Owns.nil {α:Type} (L:Lay α) (ty base:Nat) (w:World):Owns L ty base w (.slice none 0 0) ([]:List α):=
 ⟨[],rfl,World.ownsRow_nil _ _ _ _,fun j x cs h=>by simp at h⟩
theorem jP {css:List (List Value)} {k:Nat} (hk:∀cs∈css,cs.length=k) {j:Nat} {cs:List Value} (hj:css[j]? =some cs) (i:Nat) (hi:i<k):css.flatten[j*k+i]? =cs[i]? :=by
 induction css generalizing j with
 |nil=>simp at hj
 |cons c css ih=>
  have hc:=hk c (by simp)
  cases j with
  |zero=>
   simp at hj
   subst hj
   rw[List.flatten_cons,List.getElem?_append_left (by omega)]
   simp
  |succ j=>
   rw[List.flatten_cons,List.getElem?_append_right (by rw[hc,Nat.succ_mul];omega),hc,show(j+1)*k+i-k=j*k+i by rw[Nat.succ_mul];omega]
   exact ih (fun x hx=>hk x (by simp[hx])) (by simpa using hj)
theorem Owns.slice {α:Type} {L:Lay α} {ty base:Nat} {w:World} {v:Value} {xs:List α} (h:Owns L ty base w v xs):
 (slL L).R (fun b=>base≤b∧b<w.heap.size) w [v] xs:=by
 obtain⟨css,hl,hown,hR⟩:=h
 have hk:∀cs∈css,cs.length=L.k:=fun cs hcs=>by
  obtain⟨j,hj⟩:=ze.1 hcs
  have hjl:j<xs.length:=by rw[←hl];exact(zR.1 hj).1
  exact L.len (hR j _ cs (zM hjl) hj)
 rcases hown.2 with⟨rfl,h0⟩|⟨g,cap,cur,rfl,hb,hg,hnc,hcm,_,_⟩
 · exact qh
 · refine⟨some ⟨g,0,none⟩,cap,rfl,hnc,hcm,fun _=>⟨⟨g,0,none⟩,rfl,⟨hb,(Array.getElem?_eq_some_iff.1 hg).1⟩,fun j x hx=> ?_⟩⟩
   have hjl:j<css.length:=by rw[hl];exact(zR.1 hx).1
   have hcs:=zM hjl
   have hr:=hR j x _ hx hcs
   refine⟨_,fun i u hu=> ?_,L.wide hr fun b hb=>⟨hb.1,hb.2.1⟩⟩
   exact zB
theorem Owns.lt {α:Type} {L:Lay α} {ty base:Nat} {w:World} {v:Value} {xs:List α} (h:Owns L ty base w v xs):∀i,v.ownBlock=some i→base≤i∧i<w.heap.size:=by
 obtain⟨css,hl,hown,hR⟩:=h
 exact fun i hi=>⟨(hown.lt i hi).1,(hown.lt i hi).2⟩
theorem Owns.kept {α:Type} {L:Lay α} {ty base:Nat} {w w':World} {v:Value} {xs:List α} (h:Owns L ty base w v xs) {g:Nat} (hg:g<base) (ho:Only g w w'):Owns L ty base w' v xs:=by
 have hlt:=h.lt
 obtain⟨css,hl,hown,hR⟩:=h
 refine⟨css,hl,hown.kept (row:=some g) ho (.inr fun e=>by have:=hlt g e;omega),fun j x cs h1 h2=> ?_⟩
 refine L.wide (L.keep (hR j x cs h1 h2) fun b hb=>ho.block b hb.2.1 (fun e=>by injection e;omega)) fun b hb=>⟨hb.1,zP hb.2.1 ho.size,hb.2.2⟩
def vOne:List Value→Value
 |[v]=>v
 |_=> .nilFunc
def vAgg (cs:List Value):Value:= .agg cs.toArray
def Tells (b:Bool) (w:World) (e:Ending) (w':World):Prop:=e= .returned (.bool b)∧Below w.heap.size w w'
theorem qDT {α:Type} {g:α→Bool} {xs:List α} {k:Nat} {x:α} (h:(xs.take k).all g=true) (hx:xs[k]? =some x) (hg:g x=true):(xs.take (k+1)).all g=true:=by
 obtain⟨hk,rfl⟩:=zR.1 hx
 rw[za hk,List.all_append,h]
 simp[hg]
theorem zq {w:World} {a:Addr} {k K:Nat} {o:Option Value} (hK:K=1) (h:w.cell? (a.add (k*K+0))=o):w.cell? (a.add k)=o:=by
 subst hK
 simpa using h
theorem jG {α:Type} {xs ys:List α} {k:Nat} {x y:α} (h:xs.take k=ys.take k) (hx:xs[k]? =some x) (hy:ys[k]? =some y) (e:x=y):xs.take (k+1)=ys.take (k+1):=by
 obtain⟨hk,rfl⟩:=zR.1 hx
 obtain⟨hk2,rfl⟩:=zR.1 hy
 rw[za hk,za hk2,h,e]
theorem jy {α:Type} {xs ys:List α} {k:Nat} {x y:α} (hx:xs[k]? =some x) (hy:ys[k]? =some y) (e:¬x=y):xs≠ys:=by
 rintro rfl
 rw[hx] at hy
 exact e (Option.some.inj hy)
theorem zV (a:Addr) (m i:Nat) (hi:0<i):a.add (m+i)=⟨(a.add m).block,(a.add m).off+i,none⟩:=by
 rw[←qDU]
 generalize a.add m=x
 have:i≠0:=by omega
 simp[Addr.add,this]
theorem qBh (w:World) (t:TypeId) (cs:List Value):∀j u,cs[j]? =some u→(w.alloc (.cells cs.toArray t)).cell? ((⟨w.heap.size,0,none⟩:Addr).add j)=some u:=fun j u hu=>by
 have e:(⟨w.heap.size,0,none⟩:Addr).add j=⟨w.heap.size,j,none⟩:=by unfold Addr.add;split<;>simp_all
 rw[e,World.cell?_alloc_mark]
 simpa using hu
theorem qBj {B:Nat} {w w':World} {row:Option Nat} (hg:w.grownBy w' row) (hB:B≤w.heap.size) (hr:∀i,row=some i→B≤i):Below B w w':=(zS B w).grown hg hB hr
theorem zm (w:World) (q:Nat):Below w.heap.size w (w.drewN q):=⟨rfl,rfl,rfl,zQ _,fun _ _=>rfl⟩
theorem qAA {B:Nat} {w w1:World} (h:Below B w w1) (q:Nat) (hB:B≤w1.heap.size):Below B w (w1.drewN q):=h.trans ((zm w1 q).mono hB)
theorem zc {v:World} {o:Obj} {b t:Nat} {c:Array Value} (h:Blk v b t c):Blk (v.alloc o) b t c:=(zd v o b h.lt).trans h
theorem zl {v:World} {b t:Nat} {c:Array Value} (h:v.heap.size=b):Blk (v.alloc (.cells c t)) b t c:=by rw[←h];exact qAZ v t c
theorem zb {v w:World} {B b t:Nat} {c:Array Value} (h:Blk v b t c) (hb:Below B v w) (hB:b<B):Blk w b t c:=(hb.block b hB).trans h
theorem ja (k:Nat) (w:World) {ops:Array Oper} {o:Oper} {a:Act} {K:Act→World→Prop} {Q:Exit→Act→World→Prop} {X:Prop} (hgd:o.guard=none) (s x:Operand) (T E:TypeId)
 (ho:o.op= .call {callee:= .builtin .append,args:= #[s,x],argTypes:= #[T,T]})
 (z:Value) (B:Nat) (hT:Try.prog.underlying T=some (.slice E)) (hI:(Try.prog.info? E).map (fun i=>(i.zero,i.size,i.bytes))=some (some z,k,B)) (hz:z.cells.size=k) (hk:0<k) (hB:B≤100)
 (base:Nat) (v:Value) (n:Nat) (cs:List Value) (hs:a.eval s=v) (hO:w.ownsRow base E k v n cs) (ad:Addr) (d:Nat) (hx:a.eval x= .slice (some ad) 1 d) (ys:List Value) (hl:ys.length=k)
 (hc:∀j u,ys[j]? =some u→w.cell? (ad.add j)=some u) (hone:∀u∈ys,u.oneCell'=true) (hbig:n≤1000000) (hbase:base≤w.heap.size)
 (h:∀v' w',w'.ownsRow base E k v' (n+1) (cs++ys)→w.grownBy w' v.ownBlock→(v'.ownBlock=v.ownBlock∨v'.ownBlock=some w.heap.size)→K (a.put o.dst v') w'):
 if Region.wanted o (yielded ops a.tmps)=true then Oper.wp Try.prog o a w K Q else X:=by
 have hw:Region.wanted o (yielded ops a.tmps)=true:=by simp[Region.wanted,hgd]
 rw[if_pos hw]
 obtain⟨i0,hi0,hz0,hz1,hz2⟩:=info_parts hI
 have hBx:(n+1)*B≤140737488355328:=by
  have:=Nat.mul_le_mul (show n+1≤1000001 by omega) hB
  omega
 obtain⟨v',w',hrun,h2,h3,_,h5⟩:=run_append_own_at (P:=Try.prog) w base T o.type E i0 z k B hT hi0 hz0 hz1 hz2 hz hk v n cs hO ad 1 d ys (by rw[hl,Nat.one_mul]) hc hone
  (by simp only[maxLen];omega) hBx hbase
 unfold Oper.wp execOp
 simp only[ho,resolve,invoke,builtin,Sem.run_bind,Sem.run_pure,Result.andThen_ok,List.map_toArray,List.map_cons,List.map_nil,hs,hx,hrun]
 exact h v' w' h2 h3 h5
theorem qC9 {α:Type} {L:Lay α} {S:Nat→Prop} {ty base:Nat} {w:World} {v:Value} {xs:List α} {css:List (List Value)} (hl:css.length=xs.length) (hown:w.ownsRow base ty L.k v xs.length css.flatten)
 (hR:∀(j:Nat) (x:α) (cs:List Value),xs[j]? =some x→css[j]? =some cs→L.R S w cs x) (hS:∀b,base≤b→b<w.heap.size→S b):(slL L).R S w [v] xs:=by
 have hk:∀cs∈css,cs.length=L.k:=fun cs hcs=>by
  obtain⟨j,hj⟩:=ze.1 hcs
  have hjl:j<xs.length:=by rw[←hl];exact(zR.1 hj).1
  exact L.len (hR j _ cs (zM hjl) hj)
 rcases hown.2 with⟨rfl,h0⟩|⟨g,cap,cur,rfl,hb,hg,hnc,hcm,_,_⟩
 · exact qh
 · refine⟨some ⟨g,0,none⟩,cap,rfl,hnc,hcm,fun _=>⟨⟨g,0,none⟩,rfl,hS _ hb (Array.getElem?_eq_some_iff.1 hg).1,fun j x hx=> ?_⟩⟩
   have hjl:j<css.length:=by rw[hl];exact(zR.1 hx).1
   have hcs:=zM hjl
   have hr:=hR j x _ hx hcs
   refine⟨_,fun i u hu=> ?_,hr⟩
   exact zB
theorem qA7 {α:Type} {L:Lay α} {S:Nat→Prop} {w:World} {g ty:Nat} {cs:Array Value} {x:α} (h:Blk w g ty cs) (hg:S g) (hR:L.R S w cs.toList x):(slL L).R S w [.slice (some ⟨g,0,none⟩) 1 1] [x]:=by
 refine⟨some ⟨g,0,none⟩,1,rfl,zQ _,by simp[maxLen],fun _=>⟨_,rfl,hg,fun j y hy=> ?_⟩⟩
 have hj:j=0:=by
  rcases Nat.eq_zero_or_pos j with h|h
  · exact h
  · rw[List.getElem?_eq_none qT] at hy
    cases hy
 subst hj
 simp at hy
 subst hy
 refine⟨_,fun i u hu=> ?_,hR⟩
 have e:(⟨g,0,none⟩:Addr).add (0*L.k+i)=⟨g,i,none⟩:=by unfold Addr.add;split<;>simp_all
 rw[e,h.cell i]
 simpa using hu
theorem jx {α:Type} (L:Lay α) (S:Nat→Prop) (w:World):(slL L).R S w [.slice none 0 0] []:=⟨none,0,rfl,zQ _,by simp[maxLen],Sq.nil _ _ _ _⟩
theorem qCV {w w':World} {base B ty k:Nat} {v:Value} {n:Nat} {xs:List Value} (h:w.ownsRow base ty k v n xs) (hb:Below B w w') (hB:w.heap.size≤B):w'.ownsRow base ty k v n xs:=
 h.kept (w':=w') (row:=none) ⟨hb.os,hb.tape,hb.output,hb.size,fun k hk _=>hb.block k (by omega)⟩ (by cases v.ownBlock<;>simp)
theorem qAF {w:World} {base ty k:Nat} {v:Value} {n:Nat} {xs:List Value} (h:w.ownsRow base ty k v n xs):∃A m c,v= .slice A m c:=by
 rcases h.2 with⟨rfl,-⟩|⟨g,cap,cur,rfl,-⟩
 · exact⟨_,_,_,rfl⟩
 · exact⟨_,_,_,rfl⟩
theorem Owns.push {α:Type} {L:Lay α} {ty base:Nat} {w w':World} {v v':Value} {xs:List α} {css:List (List Value)} {cs:List Value} {x:α} (hl:css.length=xs.length)
 (hR:∀(j:Nat) (x:α) (cs:List Value),xs[j]? =some x→css[j]? =some cs→L.R (fun b=>base≤b∧b<w.heap.size∧v.ownBlock≠some b) w cs x)
 (hx:L.R (fun b=>base≤b∧b<w.heap.size∧v.ownBlock≠some b) w cs x) (hown:w'.ownsRow base ty L.k v' (xs.length+1) (css.flatten++cs)) (hg:w.grownBy w' v.ownBlock)
 (hv:v'.ownBlock=v.ownBlock∨v'.ownBlock=some w.heap.size):Owns L ty base w' v' (xs++[x]):=by
 have hk:∀{cs:List Value} {x:α},L.R (fun b=>base≤b∧b<w.heap.size∧v.ownBlock≠some b) w cs x→L.R (fun b=>base≤b∧b<w'.heap.size∧v'.ownBlock≠some b) w' cs x:=fun h=>
  L.wide (L.keep h fun b hb=>hg.block b hb.2.1 (fun e=>hb.2.2 e.symm)) fun b hb=>⟨hb.1,zP hb.2.1 hg.size,by
   rcases hv with e|e
   · rw[e];exact hb.2.2
   · rw[e];intro e2;injection e2 with e2;omega⟩
 refine⟨css++[cs],by simp[hl],by simpa using hown,fun j y ds h1 h2=> ?_⟩
 rcases Nat.lt_or_ge j xs.length with hj|hj
 · rw[List.getElem?_append_left hj] at h1
   rw[List.getElem?_append_left (by omega)] at h2
   exact hk (hR j y ds h1 h2)
 · rw[List.getElem?_append_right hj] at h1
   rw[List.getElem?_append_right (by omega),hl] at h2
   have e0:j-xs.length=0:=by
    rcases Nat.eq_zero_or_pos (j-xs.length) with h|h
    · exact h
    · rw[List.getElem?_eq_none qT] at h1
      cases h1
   rw[e0] at h1 h2
   simp at h1 h2
   subst h1 h2
   exact hk hx
theorem Owns.below {α:Type} {L:Lay α} {ty base:Nat} {w w':World} {v:Value} {xs:List α} (h:Owns L ty base w v xs) (hb:Below w.heap.size w w'):Owns L ty base w' v xs:=by
 obtain⟨css,hl,hown,hR⟩:=h
 exact⟨css,hl,qCV hown hb (zQ _),fun j x cs h1 h2=>L.wide (L.keep (hR j x cs h1 h2) fun b hb2=>hb.block b hb2.2.1) fun b hb2=>⟨hb2.1,zP hb2.2.1 hb.size,hb2.2.2⟩⟩
theorem qDO {css:List (List Value)} {k:Nat} (hk:∀cs∈css,cs.length=k):css.flatten.length=css.length*k:=by
 induction css with
 |nil=>simp
 |cons c css ih=>
  rw[List.flatten_cons,List.length_append,hk c (by simp),ih fun x hx=>hk x (by simp[hx]),List.length_cons,Nat.add_mul]
  omega
theorem qC4 {α:Type} {La:Lay α} {S:Nat→Prop} {w:World} {a:Addr} {xs:List α} (hk:0<La.k) (h:Sq La S w (some a) xs):
 ∃css:List (List Value),css.length=xs.length∧(∀(j:Nat) (x:α) (cs:List Value),xs[j]? =some x→css[j]? =some cs→La.R S w cs x)∧(∀(j:Nat) (u:Value),css.flatten[j]? =some u→w.cell? (a.add j)=some u)∧(∀u∈css.flatten,u.oneCell'=true)∧css.flatten.length=xs.length*La.k:=by
 have hex:∀j:Fin xs.length,∃cs:List Value,(∀i u,cs[i]? =some u→w.cell? (a.add (j.1*La.k+i))=some u)∧La.R S w cs xs[j.1]:=fun j=>by
  obtain⟨a',cs,e,hs,hc,hr⟩:=h.at (zM j.2)
  injection e with e
  subst e
  exact⟨cs,hc,hr⟩
 obtain⟨css,hl,hget⟩:∃css:List (List Value),css.length=xs.length∧∀(j:Nat) (x:α) (cs:List Value),xs[j]? =some x→css[j]? =some cs→(∀i u,cs[i]? =some u→w.cell? (a.add (j*La.k+i))=some u)∧La.R S w cs x:=by
  refine⟨List.ofFn fun j=>Classical.choose (hex j),by simp,fun j x cs h1 h2=> ?_⟩
  obtain⟨hj,e1⟩:=zR.1 h1
  obtain⟨hj2,e2⟩:=zR.1 h2
  rw[List.getElem_ofFn] at e2
  subst e1 e2
  exact Classical.choose_spec (hex ⟨j,hj⟩)
 have hlen:∀cs∈css,cs.length=La.k:=fun cs hcs=>by
  obtain⟨j,hj⟩:=ze.1 hcs
  have hjl:j<xs.length:=by rw[←hl];exact(zR.1 hj).1
  exact La.len (hget j _ cs (zM hjl) hj).2
 have hfl:css.flatten.length=xs.length*La.k:=by rw[qDO hlen,hl]
 refine⟨css,hl,fun j x cs h1 h2=>(hget j x cs h1 h2).2,fun j u hu=> ?_,fun u hu=> ?_,hfl⟩
 · have hj:=(zR.1 hu).1
   rw[hfl] at hj
   have hq:j / La.k<xs.length:=(Nat.div_lt_iff_lt_mul hk).2 hj
   have hr:j % La.k<La.k:=Nat.mod_lt _ hk
   have hcs:css[j / La.k]? =some (css[j / La.k]'(by omega)):=zM _
   have e:j / La.k*La.k+j % La.k=j:=by rw[Nat.mul_comm];exact Nat.div_add_mod j La.k
   have hf:=jP hlen hcs (j % La.k) hr
   rw[e] at hf
   rw[hf] at hu
   have:=(hget _ _ _ (zM hq) hcs).1 _ u hu
   rwa [e] at this
 · obtain⟨cs,hcs,hu⟩:=List.mem_flatten.1 hu
   obtain⟨j,hj⟩:=ze.1 hcs
   have hjl:j<xs.length:=by rw[←hl];exact(zR.1 hj).1
   exact La.one (hget j _ cs (zM hjl) hj).2 u hu
theorem zt {α:Type} (La:Lay α) (w:World) {ops:Array Oper} {rest:List Oper} {o:Oper} {a:Act} {Q:Exit→Act→World→Prop} (hgd:o.guard=none) (s x:Operand) (T E:TypeId)
 (ho:o.op= .call {callee:= .builtin .append,args:= #[s,x],argTypes:= #[T,T]})
 (z:Value) (B:Nat) (hT:Try.prog.underlying T=some (.slice E)) (hI:(Try.prog.info? E).map (fun i=>(i.zero,i.size,i.bytes))=some (some z,La.k,B)) (hz:z.cells.size=La.k) (hk:0<La.k) (hB:B≤100)
 (base:Nat) (v:Value) (hs:a.eval s=v) (hO:w.ownsRow base E La.k v 0 []) (ad:Addr) (m d:Nat) (xs:List α) (hx:a.eval x= .slice (some ad) m d) (hl:xs.length=m) (S:Nat→Prop) (hS:Sq La S w (some ad) xs) (hbig:m≤1000000) (hbase:base≤w.heap.size)
 (h:∀(v':Value) (w':World) (css:List (List Value)),css.length=m→w'.ownsRow base E La.k v' m css.flatten→(∀(j:Nat) (x:α) (cs:List Value),xs[j]? =some x→css[j]? =some cs→La.R S w cs x)→w.grownBy w' v.ownBlock→wpList Try.prog ops Q rest (a.put o.dst v') w'):wpList Try.prog ops Q (o::rest) a w:=by
 refine wpList_plain hgd fun _ hK=> ?_
 obtain⟨i0,hi0,hz0,hz1,hz2⟩:=info_parts hI
 obtain⟨css,hcl,hR,hc,hone,hfl⟩:=qC4 hk hS
 have hBx:(0+m)*B≤140737488355328:=by
  have:=Nat.mul_le_mul (show 0+m≤1000000 by omega) hB
  omega
 obtain⟨v',w',hrun,h2,h3,_,h5⟩:=run_append_own_at (P:=Try.prog) w base T o.type E i0 z La.k B hT hi0 hz0 hz1 hz2 hz hk v 0 [] hO ad m d css.flatten (by rw[hfl,hl]) hc hone
  (by simp only[maxLen];omega) hBx hbase
 unfold Oper.wp execOp
 simp only[ho,resolve,invoke,builtin,Sem.run_bind,Sem.run_pure,Result.andThen_ok,List.map_toArray,List.map_cons,List.map_nil,hs,hx,hrun]
 rw[Nat.zero_add,List.nil_append] at h2
 exact hK _ _ (h v' w' css (hcl.trans hl) h2 hR h3)
theorem qAS {α:Type} (La:Lay α) (w:World) {ops:Array Oper} {rest:List Oper} {o:Oper} {a:Act} {Q:Exit→Act→World→Prop} (hgd:o.guard=none) (s x:Operand) (T E:TypeId)
 (ho:o.op= .call {callee:= .builtin .append,args:= #[s,x],argTypes:= #[T,T]})
 (z:Value) (B:Nat) (hT:Try.prog.underlying T=some (.slice E)) (hI:(Try.prog.info? E).map (fun i=>(i.zero,i.size,i.bytes))=some (some z,La.k,B)) (hz:z.cells.size=La.k) (hk:0<La.k) (hB:B≤100)
 (base:Nat) (v:Value) (hs:a.eval s=v) (hO:w.ownsRow base E La.k v 0 []) (A:Option Addr) (m d:Nat) (xs:List α) (hx:a.eval x= .slice A m d) (hl:xs.length=m) (S:Nat→Prop) (hS:Sq La S w A xs) (hbig:m≤1000000) (hbase:base≤w.heap.size)
 (h:∀(v':Value) (w':World) (css:List (List Value)),css.length=m→w'.ownsRow base E La.k v' m css.flatten→(∀(j:Nat) (x:α) (cs:List Value),xs[j]? =some x→css[j]? =some cs→La.R S w cs x)→w.grownBy w' v.ownBlock→wpList Try.prog ops Q rest (a.put o.dst v') w'):wpList Try.prog ops Q (o::rest) a w:=by
 rcases A with _|ad
 · have h0:xs=[]:=by
    cases xs with
    |nil=>rfl
    |cons y ys=>obtain⟨a,e,-⟩:=hS (by simp);cases e
   subst h0
   have hl:0=m:=hl
   subst hl
   refine wpList_plain hgd fun _ hK=> ?_
   obtain⟨i0,hi0,hz0,hz1,hz2⟩:=info_parts hI
   have ht:=run_underlying (P:=Try.prog) (w:=w) hT
   have hrun:(Builtin.append_ #[T,T] o.type #[v,.slice none 0 d]).run Try.prog w= .ok v w:=by
    rcases hO.2 with⟨rfl,-⟩|⟨g,cap,cur,rfl,_,_,hnc,_⟩
    · simp[Builtin.append_,ht,sizeOf,typeInfo,hi0,Builtin.lenOf,Builtin.firstCells]
    · simp[Builtin.append_,ht,sizeOf,typeInfo,hi0,Builtin.lenOf,Builtin.firstCells,hnc,storeCells]
   unfold Oper.wp execOp
   simp only[ho,resolve,invoke,builtin,Sem.run_bind,Sem.run_pure,Result.andThen_ok,List.map_toArray,List.map_cons,List.map_nil,hs,hx,hrun]
   exact hK _ _ (h v w [] rfl (by simpa using hO) (fun j x cs h1=>by simp at h1) ⟨rfl,rfl,rfl,zQ _,fun _ _ _=>rfl⟩)
 · exact zt La w hgd s x T E ho z B hT hI hz hk hB base v hs hO ad m d xs hx hl S hS hbig hbase h
theorem jW {css:List (List Value)} {K:Nat} (hk:∀cs∈css,cs.length=K) {j:Nat} {cs:List Value} (hj:css[j]? =some cs) {i:Nat} (hi:i<K) (u:Value):css.flatten.set (j*K+i) u=(css.set j (cs.set i u)).flatten:=by
 induction css generalizing j with
 |nil=>simp at hj
 |cons c css ih=>
  have hc:=hk c (by simp)
  cases j with
  |zero=>
   simp at hj
   subst hj
   rw[List.flatten_cons,Nat.zero_mul,Nat.zero_add,List.set_append_left _ _ (by omega),List.set_cons_zero,List.flatten_cons]
  |succ j=>
   rw[List.flatten_cons,List.set_append_right _ _ (by rw[hc,Nat.succ_mul];omega),hc,show(j+1)*K+i-K=j*K+i by rw[Nat.succ_mul];omega,ih (fun x hx=>hk x (by simp[hx])) (by simpa using hj),List.set_cons_succ,List.flatten_cons]
theorem zf {w w':World} {base ty k n:Nat} {v:Value} {xs:List Value} (h:w.ownsRow base ty k v n xs) (hk:∀b,v.ownBlock=some b→w'.heap[b]? =w.heap[b]?):w'.ownsRow base ty k v n xs:=by
 refine⟨h.1,?_⟩
 rcases h.2 with h0|⟨g',cap,cur,e,q1,q2,q3⟩
 · exact .inl h0
 · refine .inr ⟨g',cap,cur,e,q1,?_,q3⟩
   rw[hk g' (by rw[e];rfl)]
   exact q2
theorem jU {w:World} {base ty k n:Nat} {v:Value} {xs:List Value} (h:w.ownsRow base ty k v n xs) (hn:0<n):∃g c,v= .slice (some ⟨g,0,none⟩) n c∧base≤g∧g<w.heap.size:=by
 rcases h.2 with⟨_,h0⟩|⟨g,cap,cur,rfl,hb,hg,_⟩
 · omega
 · exact⟨g,cap,rfl,hb,(Array.getElem?_eq_some_iff.1 hg).1⟩
theorem jN (w:World) (ty k:Nat):(w.alloc (.cells #[] ty)).ownsRow w.heap.size ty k (.slice (some ⟨w.heap.size,0,none⟩) 0 0) 0 []:=
 World.ownsRow_made w #[] 0 (zQ _) (by simp[maxLen]) (by simp)
theorem zi {P:Program} {c:Code} {Q:Exit→Act→World→Prop} {a:Act} {w:World} (h:∀W,W=w→c.wp P Q a W):c.wp P Q a w:=h w rfl
structure Ob where
 kind:Int
 n:Int
 words:List Nat
 bytes:List Nat
theorem Ob.eq_of {a b:Ob} (h1:a.kind=b.kind) (h2:a.n=b.n) (h3:a.words=b.words) (h4:a.bytes=b.bytes):a=b:=by
 cases a;cases b;simp_all
instance:DecidableEq Ob:=fun a b=>decidable_of_iff (a.kind=b.kind∧a.n=b.n∧a.words=b.words∧a.bytes=b.bytes) ⟨fun h=>Ob.eq_of h.1 h.2.1 h.2.2.1 h.2.2.2,fun h=>by subst h;exact⟨rfl,rfl,rfl,rfl⟩⟩
instance:Inhabited Ob:=⟨⟨0,0,[],[]⟩⟩
def ob0:Ob:=⟨0,0,[],[]⟩
def Ob.cost (o:Ob):Int:=16+8*(o.words.length:Int)+(o.bytes.length:Int)
def Ob.small (o:Ob):Prop:=o.words.length≤100000∧o.bytes.length≤100000
def Ns (xs:List Nat):List Value:=xs.map fun x:Nat=>Value.int .u64 (x:Int)
theorem qAM (xs:List Nat):(Ns xs).length=xs.length:=by simp[Ns]
theorem Ns_at {xs:List Nat} {j x:Nat} (h:xs[j]? =some x):(Ns xs)[j]? =some (.int .u64 (x:Int)):=by simp[Ns,h]
abbrev wrdL:Lay (List Nat):=slL numL
def bytL:Lay (List Nat) where
 k:=1
 R S w cs xs:=∃A c,cs=[.slice A xs.length c]∧xs.length≤c∧c≤maxLen∧Byt S w A xs∧∀x∈xs,x<256
 len:=by rintro S w cs x ⟨A,c,rfl,_⟩;rfl
 keep:=by rintro S w w' cs x ⟨A,c,rfl,h1,h2,h3,h4⟩ hk;exact⟨A,c,rfl,h1,h2,h3.keep hk,h4⟩
 wide:=by rintro S T w cs x ⟨A,c,rfl,h1,h2,h3,h4⟩ hk;exact⟨A,c,rfl,h1,h2,h3.wide hk,h4⟩
 one:=by rintro S w cs x ⟨A,c,rfl,_⟩ u hu;simp at hu;subst hu;rfl
def obL:Lay Ob where
 k:=4
 R S w cs o:=∃v0 v1,cs=[.int .i64 o.kind,.int .i64 o.n,v0,v1]∧I64 o.kind∧I64 o.n∧wrdL.R S w [v0] o.words∧bytL.R S w [v1] o.bytes
 len:=by rintro S w cs x ⟨v0,v1,rfl,_⟩;rfl
 keep:=by rintro S w w' cs x ⟨v0,v1,rfl,h1,h2,h3,h4⟩ hk;exact⟨v0,v1,rfl,h1,h2,wrdL.keep h3 hk,bytL.keep h4 hk⟩
 wide:=by rintro S T w cs x ⟨v0,v1,rfl,h1,h2,h3,h4⟩ hk;exact⟨v0,v1,rfl,h1,h2,wrdL.wide h3 hk,bytL.wide h4 hk⟩
 one:=by
  rintro S w cs x ⟨v0,v1,rfl,h1,h2,h3,h4⟩ u hu
  simp at hu
  rcases hu with rfl|rfl|rfl|rfl
  · rfl
  · rfl
  · exact wrdL.one h3 _ (by simp)
  · exact bytL.one h4 _ (by simp)
theorem jH {S:Nat→Prop} {w:World} {cs:List Value} {o:Ob} (h:obL.R S w cs o):
 ∃A c B d,cs=[.int .i64 o.kind,.int .i64 o.n,.slice A o.words.length c,.slice B o.bytes.length d]∧o.words.length≤c∧c≤maxLen∧o.bytes.length≤d∧d≤maxLen∧Sq numL S w A o.words∧Byt S w B o.bytes∧(∀x∈o.bytes,x<256)∧I64 o.kind∧I64 o.n:=by
 obtain⟨v0,v1,rfl,h1,h2,⟨A,c,e0,a1,a2,a3⟩,⟨B,d,e1,b1,b2,b3,b4⟩⟩:=h
 simp only[List.cons.injEq,and_true] at e0 e1
 subst e0 e1
 exact⟨A,c,B,d,rfl,a1,a2,b1,b2,a3,b3,b4,h1,h2⟩
theorem add_off (g i j:Nat):(⟨g,i,none⟩:Addr).add j=⟨g,i+j,none⟩:=by unfold Addr.add;split<;>simp_all
theorem add_zero (g j:Nat):(⟨g,0,none⟩:Addr).add j=⟨g,j,none⟩:=by rw[add_off,Nat.zero_add]
theorem qDE {S:Nat→Prop} {w:World} {A:Option Addr} {xs:List Nat} (h:Sq numL S w A xs) {k x:Nat} (hk:xs[k]? =some x):∃a,A=some a∧S a.block∧w.cell? (a.add k)=some (.int .u64 (x:Int))∧x<B64:=by
 obtain⟨a,cs,e,hs,hc,rfl,hb⟩:=h.at hk
 exact⟨a,e,hs,zq rfl (hc 0 _ rfl),hb⟩
theorem qAI {S:Nat→Prop} {w:World} {A:Option Addr} {xs:List Nat} (h:Sq numL S w A xs):∀x∈xs,x<B64:=fun x hx=>by
 obtain⟨j,hj⟩:=ze.1 hx
 obtain⟨a,e,hs,hc,hb⟩:=qDE h hj
 exact hb
def Part (P:Nat→Prop) (w:World) (ty:TypeId) (v:Value) (cs:List Value):Prop:=
 ∃A c,v= .slice A cs.length c∧cs.length≤c∧c≤maxLen∧(0<cs.length→∃(g:Nat) (cur:Array Value),A=some ⟨g,0,none⟩∧P g∧Blk w g ty cur∧∀(i:Nat) (u:Value),cs[i]? =some u→cur[i]? =some u)
theorem Part.nil (P:Nat→Prop) (w:World) (ty:TypeId):Part P w ty (.slice none 0 0) []:=⟨none,0,rfl,zQ _,by simp[maxLen],fun h=>absurd h (by simp)⟩
theorem Part.keep {P:Nat→Prop} {w w':World} {ty:TypeId} {v:Value} {cs:List Value} (h:Part P w ty v cs) (hk:∀b,P b→w'.heap[b]? =w.heap[b]?):Part P w' ty v cs:=by
 obtain⟨A,c,e,h1,h2,h3⟩:=h
 refine⟨A,c,e,h1,h2,fun hp=> ?_⟩
 obtain⟨g,cur,e1,hP,hb,hc⟩:=h3 hp
 exact⟨g,cur,e1,hP,(hk g hP).trans hb,hc⟩
theorem Part.wide {P Q:Nat→Prop} {w:World} {ty:TypeId} {v:Value} {cs:List Value} (h:Part P w ty v cs) (hk:∀b,b<w.heap.size→P b→Q b):Part Q w ty v cs:=by
 obtain⟨A,c,e,h1,h2,h3⟩:=h
 refine⟨A,c,e,h1,h2,fun hp=> ?_⟩
 obtain⟨g,cur,e1,hP,hb,hc⟩:=h3 hp
 exact⟨g,cur,e1,hk g hb.lt hP,hb,hc⟩
theorem Part.shape {P:Nat→Prop} {w:World} {ty:TypeId} {v:Value} {cs:List Value} (h:Part P w ty v cs):∃A c,v= .slice A cs.length c∧cs.length≤c∧c≤maxLen:=by
 obtain⟨A,c,e,h1,h2,-⟩:=h
 exact⟨A,c,e,h1,h2⟩
theorem Part.head {P:Nat→Prop} {w:World} {ty:TypeId} {A:Option Addr} {n c:Nat} {cs:List Value} (h:Part P w ty (.slice A n c) cs) (hn:0<n):
 ∃(g:Nat) (cur:Array Value),A=some ⟨g,0,none⟩∧P g∧Blk w g ty cur∧∀(i:Nat) (u:Value),cs[i]? =some u→cur[i]? =some u:=by
 obtain⟨A',c',e,h1,h2,h3⟩:=h
 simp only[Value.slice.injEq] at e
 obtain⟨rfl,e2,rfl⟩:=e
 exact h3 (by omega)
theorem Part.set {P:Nat→Prop} {w:World} {ty:TypeId} {g n c i:Nat} {cs:List Value} (h:Part P w ty (.slice (some ⟨g,0,none⟩) n c) cs) (hn:0<n) (u:Value):Part P (w.setCell ⟨g,i,none⟩ u) ty (.slice (some ⟨g,0,none⟩) n c) (cs.set i u):=by
 obtain⟨g',cur,e,hP,hb,hc⟩:=h.head hn
 simp only[Option.some.injEq,Addr.mk.injEq,and_true] at e
 subst e
 obtain⟨A',c',e,h1,h2,h3⟩:=h
 simp only[Value.slice.injEq] at e
 obtain⟨rfl,e2,rfl⟩:=e
 refine⟨some ⟨g,0,none⟩,c,by rw[List.length_set,e2],by rw[List.length_set];exact h1,h2,fun _=>⟨g,_,rfl,hP,hb.set i u,fun j x hx=> ?_⟩⟩
 rw[List.getElem?_set] at hx
 rw[Array.getElem?_setIfInBounds]
 split at hx
 · subst i
   have hj:j<cur.size:=by
    split at hx
    · have:=hc j cs[j] (zM qd)
      exact(Array.getElem?_eq_some_iff.1 this).1
    · cases hx
   rw[if_pos rfl,if_pos hj]
   split at hx
   · exact hx
   · cases hx
 · rw[if_neg qd]
   exact hc j x hx
theorem Part.words {P:Nat→Prop} {w:World} {v:Value} {xs:List Nat} (h:Part P w 25 v (Ns xs)) (hb:∀x∈xs,x<B64):wrdL.R P w [v] xs:=by
 obtain⟨A,c,rfl,h1,h2,h3⟩:=h
 rw[qAM] at h1 h3⊢
 refine⟨A,c,rfl,h1,h2,fun hp=> ?_⟩
 obtain⟨g,cur,rfl,hP,hg,hc⟩:=h3 hp
 refine⟨_,rfl,hP,fun j x hx=>⟨[.int .u64 (x:Int)],fun i u hu=> ?_,rfl,hb x (zT hx)⟩⟩
 match i,hu with
 |0,hu=>
  simp at hu
  subst hu
  rw[add_zero,show j*numL.k+0=j by show j*1+0=j;omega,hg.cell]
  exact hc j _ (Ns_at hx)
 |i+1,hu=>simp at hu
theorem Part.bytes {P:Nat→Prop} {w:World} {v:Value} {xs:List Nat} (h:Part P w 5 v (Bs xs)) (hb:∀x∈xs,x<256):bytL.R P w [v] xs:=by
 obtain⟨A,c,rfl,h1,h2,h3⟩:=h
 rw[jY] at h1 h3⊢
 refine⟨A,c,rfl,h1,h2,fun hp=> ?_,hb⟩
 obtain⟨g,cur,rfl,hP,hg,hc⟩:=h3 hp
 refine⟨_,rfl,hP,fun j hj=> ?_⟩
 rw[add_zero,hg.cell]
 exact hc j _ (qBJ xs j hj)
def Obj1 (P0 P1:Nat→Prop) (w:World) (cs:List Value) (o:Ob):Prop:=
 ∃v0 v1,cs=[.int .i64 o.kind,.int .i64 o.n,v0,v1]∧I64 o.kind∧I64 o.n∧(∀x∈o.words,x<B64)∧(∀x∈o.bytes,x<256)∧Part P0 w 25 v0 (Ns o.words)∧Part P1 w 5 v1 (Bs o.bytes)
theorem Obj1.keep {P0 P1:Nat→Prop} {w w':World} {cs:List Value} {o:Ob} (h:Obj1 P0 P1 w cs o) (h0:∀b,P0 b→w'.heap[b]? =w.heap[b]?) (h1:∀b,P1 b→w'.heap[b]? =w.heap[b]?):Obj1 P0 P1 w' cs o:=by
 obtain⟨v0,v1,e,a,b,c,d,e0,e1⟩:=h
 exact⟨v0,v1,e,a,b,c,d,e0.keep h0,e1.keep h1⟩
theorem Obj1.wide {P0 P1 Q0 Q1:Nat→Prop} {w:World} {cs:List Value} {o:Ob} (h:Obj1 P0 P1 w cs o) (h0:∀b,b<w.heap.size→P0 b→Q0 b) (h1:∀b,b<w.heap.size→P1 b→Q1 b):Obj1 Q0 Q1 w cs o:=by
 obtain⟨v0,v1,e,a,b,c,d,e0,e1⟩:=h
 exact⟨v0,v1,e,a,b,c,d,e0.wide h0,e1.wide h1⟩
theorem Obj1.len {P0 P1:Nat→Prop} {w:World} {cs:List Value} {o:Ob} (h:Obj1 P0 P1 w cs o):cs.length=4:=by
 obtain⟨v0,v1,rfl,-⟩:=h
 rfl
theorem Obj1.one {P0 P1:Nat→Prop} {w:World} {cs:List Value} {o:Ob} (h:Obj1 P0 P1 w cs o):∀u∈cs,u.oneCell'=true:=by
 obtain⟨v0,v1,rfl,-,-,-,-,e0,e1⟩:=h
 obtain⟨A,c,rfl,-⟩:=e0
 obtain⟨B,d,rfl,-⟩:=e1
 intro u hu
 simp at hu
 rcases hu with rfl|rfl|rfl|rfl<;>rfl
theorem Obj1.ob {P0 P1 S:Nat→Prop} {w:World} {cs:List Value} {o:Ob} (h:Obj1 P0 P1 w cs o) (h0:∀b,P0 b→S b) (h1:∀b,P1 b→S b):obL.R S w cs o:=by
 obtain⟨v0,v1,rfl,a,b,c,d,e0,e1⟩:=h
 exact⟨v0,v1,rfl,a,b,wrdL.wide (e0.words c) h0,bytL.wide (e1.bytes d) h1⟩
theorem Obj1.parts {P0 P1:Nat→Prop} {w:World} {cs:List Value} {o:Ob} (h:Obj1 P0 P1 w cs o):
 ∃A c B d,cs=[.int .i64 o.kind,.int .i64 o.n,.slice A o.words.length c,.slice B o.bytes.length d]∧Part P0 w 25 (.slice A o.words.length c) (Ns o.words)∧Part P1 w 5 (.slice B o.bytes.length d) (Bs o.bytes):=by
 obtain⟨v0,v1,rfl,a,b,x,y,e0,e1⟩:=h
 obtain⟨A,c,rfl,q⟩:=id e0
 obtain⟨B,d,rfl,q'⟩:=id e1
 rw[qAM] at e0⊢
 rw[jY] at e1⊢
 exact⟨A,c,B,d,rfl,e0,e1⟩
def Row (S:Nat→Prop) (tag:Nat→Nat) (w:World) (v:Value) (css:List (List Value)) (O:List Ob):Prop:=
 css.length=O.length∧w.ownsRow 0 37 4 v O.length css.flatten∧(∀b,v.ownBlock=some b→S b∧tag b=1)∧
  ∀(j:Nat) (o:Ob) (cs:List Value),O[j]? =some o→css[j]? =some cs→Obj1 (fun b=>S b∧tag b=2*j+2) (fun b=>S b∧tag b=2*j+3) w cs o
theorem Row.len4 {S:Nat→Prop} {tag:Nat→Nat} {w:World} {v:Value} {css:List (List Value)} {O:List Ob} (h:Row S tag w v css O):∀cs∈css,cs.length=4:=fun cs hcs=>by
 obtain⟨j,hj⟩:=ze.1 hcs
 have hjl:j<O.length:=by rw[←h.1];exact(zR.1 hj).1
 exact(h.2.2.2 j _ cs (zM hjl) hj).len
theorem Row.keep {S:Nat→Prop} {tag:Nat→Nat} {w w':World} {v:Value} {css:List (List Value)} {O:List Ob} (h:Row S tag w v css O) (hk:∀b,S b→0<tag b→w'.heap[b]? =w.heap[b]?):Row S tag w' v css O:=
 ⟨h.1,zf h.2.1 fun b e=>hk b (h.2.2.1 b e).1 (by have:=(h.2.2.1 b e).2;omega),h.2.2.1,fun j o cs h1 h2=>(h.2.2.2 j o cs h1 h2).keep (fun b hb=>hk b hb.1 (by omega)) fun b hb=>hk b hb.1 (by omega)⟩
theorem Row.wide {S T:Nat→Prop} {tag:Nat→Nat} {w:World} {v:Value} {css:List (List Value)} {O:List Ob} (h:Row S tag w v css O) (hk:∀b,S b→T b):Row T tag w v css O:=
 ⟨h.1,h.2.1,fun b e=>⟨hk b (h.2.2.1 b e).1,(h.2.2.1 b e).2⟩,fun j o cs h1 h2=>(h.2.2.2 j o cs h1 h2).wide (fun b _ hb=>⟨hk b hb.1,hb.2⟩) fun b _ hb=>⟨hk b hb.1,hb.2⟩⟩
theorem Row.nil (S:Nat→Prop) (tag:Nat→Nat) (w:World):Row S tag w (.slice none 0 0) [] []:=
 ⟨rfl,World.ownsRow_nil _ _ _ _,fun b e=>by simp[Value.ownBlock] at e,fun j o cs h=>by simp at h⟩
theorem Row.sl {S:Nat→Prop} {tag:Nat→Nat} {w:World} {v:Value} {css:List (List Value)} {O:List Ob} (h:Row S tag w v css O):(slL obL).R S w [v] O:=by
 obtain⟨hl,hown,hb,hR⟩:=h
 have hR':∀(j:Nat) (o:Ob) (cs:List Value),O[j]? =some o→css[j]? =some cs→obL.R S w cs o:=fun j o cs h1 h2=>(hR j o cs h1 h2).ob (fun b hb=>hb.1) fun b hb=>hb.1
 have hk:∀cs∈css,cs.length=obL.k:=fun cs hcs=>by
  obtain⟨j,hj⟩:=ze.1 hcs
  have hjl:j<O.length:=by rw[←hl];exact(zR.1 hj).1
  exact obL.len (hR' j _ cs (zM hjl) hj)
 rcases hown.2 with⟨rfl,h0⟩|⟨g,cap,cur,rfl,hb',hg,hnc,hcm,_,_⟩
 · exact qh
 · refine⟨some ⟨g,0,none⟩,cap,rfl,hnc,hcm,fun _=>⟨⟨g,0,none⟩,rfl,(hb g rfl).1,fun j x hx=> ?_⟩⟩
   have hjl:j<css.length:=by rw[hl];exact(zR.1 hx).1
   have hcs:=zM hjl
   have hr:=hR' j x _ hx hcs
   refine⟨_,fun i u hu=> ?_,hr⟩
   have hi:i<obL.k:=by rw[←obL.len hr];exact(zR.1 hu).1
   exact hown.cells rfl (j*obL.k+i) u (by rw[jP hk hcs i hi];exact hu)
theorem Row.shape {S:Nat→Prop} {tag:Nat→Nat} {w:World} {v:Value} {css:List (List Value)} {O:List Ob} (h:Row S tag w v css O):∃A c,v= .slice A O.length c∧O.length≤c∧c≤maxLen:=by
 obtain⟨A,c,e,h1,h2,-⟩:=h.sl
 simp only[List.cons.injEq,and_true] at e
 exact⟨A,c,e,h1,h2⟩
theorem Row.cells {S:Nat→Prop} {tag:Nat→Nat} {w:World} {A:Option Addr} {n c:Nat} {css:List (List Value)} {O:List Ob} (h:Row S tag w (.slice A n c) css O) {j:Nat} {o:Ob} (hj:O[j]? =some o):
 ∃g cs,A=some ⟨g,0,none⟩∧S g∧tag g=1∧g<w.heap.size∧css[j]? =some cs∧(∀i u,cs[i]? =some u→w.cell? ⟨g,j*4+i,none⟩=some u)∧(∀i,w.frozen? ⟨g,i,none⟩=false)∧
  Obj1 (fun b=>S b∧tag b=2*j+2) (fun b=>S b∧tag b=2*j+3) w cs o:=by
 have hk:=h.len4
 obtain⟨hl,hown,hb,hR⟩:=h
 have hjl:j<css.length:=by rw[hl];exact(zR.1 hj).1
 have hcs:=zM hjl
 have hr:=hR j o _ hj hcs
 obtain⟨g,c',e,-,hg⟩:=jU hown (by omega)
 simp only[Value.slice.injEq] at e
 obtain⟨rfl,rfl,rfl⟩:=e
 refine⟨g,_,rfl,(hb g rfl).1,(hb g rfl).2,hg,hcs,fun i u hu=> ?_,fun i=>hown.frozenAt i,hr⟩
 have hi:i<4:=by rw[←hr.len];exact(zR.1 hu).1
 have:=hown.cells rfl (j*4+i) u (by rw[jP hk hcs i hi];exact hu)
 rwa [add_zero] at this
structure Hnd where
 kind:Int
 desc:Nat
 opn:Bool
theorem Hnd.eq_of {a b:Hnd} (h1:a.kind=b.kind) (h2:a.desc=b.desc) (h3:a.opn=b.opn):a=b:=by
 cases a;cases b;simp_all
instance:DecidableEq Hnd:=fun a b=>decidable_of_iff (a.kind=b.kind∧a.desc=b.desc∧a.opn=b.opn) ⟨fun h=>Hnd.eq_of h.1 h.2.1 h.2.2,fun h=>by subst h;exact⟨rfl,rfl,rfl⟩⟩
instance:Inhabited Hnd:=⟨⟨0,0,false⟩⟩
def hdC (h:Hnd):List Value:=[.int .i64 h.kind,.int .u64 (h.desc:Int),.bool h.opn]
theorem hdC_one (h:Hnd):∀u∈hdC h,u.oneCell'=true:=by
 intro u hu
 simp only[hdC,List.mem_cons,List.not_mem_nil,or_false] at hu
 rcases hu with rfl|rfl|rfl<;>rfl
def hdL:Lay Hnd where
 k:=3
 R _ _ cs h:=cs=hdC h∧I64 h.kind∧h.desc<B64
 len:=by rintro S w cs x ⟨rfl,_⟩;rfl
 keep:=by rintro S w w' cs x h _;exact h
 wide:=by rintro S T w cs x h _;exact h
 one:=by rintro S w cs x ⟨rfl,_⟩ u hu;exact hdC_one x u hu
def HOk (H:List Hnd):Prop:=∀h∈H,I64 h.kind∧h.desc<B64
theorem HOk.nil:HOk []:=fun h hh=>by simp at hh
theorem HOk.set {H:List Hnd} (h:HOk H) (j:Nat) {x:Hnd} (hx:I64 x.kind∧x.desc<B64):HOk (H.set j x):=fun y hy=>by
 rcases List.mem_or_eq_of_mem_set hy with q|q
 · exact h y q
 · rw[q];exact hx
def Hcs (H:List Hnd):List Value:=(H.map hdC).flatten
theorem Hcs_k (H:List Hnd):∀cs∈H.map hdC,cs.length=3:=fun cs hc=>by
 obtain⟨h,-,rfl⟩:=List.mem_map.1 hc
 rfl
theorem Hcs_at {H:List Hnd} {j:Nat} {h:Hnd} (hj:H[j]? =some h) (i:Nat) (hi:i<3):(Hcs H)[j*3+i]? =(hdC h)[i]? :=jP (Hcs_k H) (by simp[hj]) i hi
theorem qBf {S:Nat→Prop} {w:World}:∀{css:List (List Value)} {H:List Hnd},css.length=H.length→(∀(j:Nat) (x:Hnd) (cs:List Value),H[j]? =some x→css[j]? =some cs→hdL.R S w cs x)→css.flatten=Hcs H
 |[],[],_,_=>rfl
 |[],_::_,h,_=>by simp at h
 |_::_,[],h,_=>by simp at h
 |c::css,x::xs,h,hR=>by
  have h0:=hR 0 x c rfl rfl
  have ih:=qBf (css:=css) (H:=xs) (by simpa using h) fun j y cs h1 h2=>hR (j+1) y cs (by simpa using h1) (by simpa using h2)
  rw[List.flatten_cons,ih,h0.1]
  rfl
theorem sq_ok {S:Nat→Prop} {w:World} {A:Option Addr} {H:List Hnd} (h:Sq hdL S w A H):HOk H:=fun x hx=>by
 obtain⟨j,hj⟩:=ze.1 hx
 obtain⟨a,cs,-,-,-,-,q⟩:=h.at hj
 exact q
theorem hds_sl {w:World} {base:Nat} {v:Value} {H:List Hnd} (h:w.ownsRow base 39 3 v H.length (Hcs H)) (ok:HOk H):
 ∃A c,v= .slice A H.length c∧H.length≤c∧c≤maxLen∧Sq hdL (fun b=>v.ownBlock=some b∧base≤b∧b<w.heap.size) w A H:=by
 have hn:(slL hdL).R (fun b=>v.ownBlock=some b∧base≤b∧b<w.heap.size) w [v] H:=by
  rcases h.2 with⟨rfl,h0⟩|⟨g,cap,cur,rfl,hb,hg,hnc,hcm,_,_⟩
  · exact qh
  · refine⟨some ⟨g,0,none⟩,cap,rfl,hnc,hcm,fun _=>⟨_,rfl,⟨rfl,hb,(Array.getElem?_eq_some_iff.1 hg).1⟩,fun j x hx=>⟨hdC x,fun i u hu=> ?_,rfl,ok x (zT hx)⟩⟩⟩
    have hi:i<3:=(zR.1 hu).1
    exact h.cells rfl (j*3+i) u (by rw[Hcs_at hx i hi];exact hu)
 obtain⟨A,c,e,h1,h2,h3⟩:=hn
 simp only[List.cons.injEq,and_true] at e
 exact⟨A,c,e,h1,h2,h3⟩
theorem qCJ:(Try.prog.info? 39).map (fun i=>(i.zero,i.size,i.bytes))=some (some (.agg #[.int .i64 0,.int .u64 0,.bool false]),3,24):=by kernel_rfl
end Go.Proofs.Ytconajaecpgjgaa
