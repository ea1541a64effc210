/-
Lay Ops Omd Opz Omz Wityp Wiins Kgd Iar Ift Ipt Fi
-/
import Derived.Test.YtelceoecekfamaaGreatQ01
import Derived.Lib.AppendStr
import Derived.Deep.SlicePairs
import Derived.SizedLaws
import Derived.LoopN
set_option linter.unusedSimpArgs false
set_option linter.unusedVariables false
set_option maxRecDepth 100000
set_option maxHeartbeats 2000000
namespace Go.Proofs.YtelceoecekfamaaGreat
open Go.RowKit
variable {H:Type}{t:TypeId}{w:World}{α:Type}
theorem qC {P:Prop} (h:P:=by
 go_wp2_with fail
 go_ret;exact⟨rfl,(qAk _ _).alloc (qAi _) _⟩):P:=h
theorem qN {P:Prop} (h:P:=by
 obtain rfl:k=n:=by omega
 go_wp2_with fail
 go_ret;refine⟨?_,HB.out⟩;have e:=HA.out;rw[qAn (by rw[HL.out];exact qAi _)] at e;rw[HW.out,e]
 rfl):P:=h
theorem qV {P:Prop} (h:P:=by kernel_rfl):P:=h
theorem qY {P:Prop} (h:P:=by
 go_wp2_with fail
 go_ret;exact⟨rfl,qAk _ _⟩):P:=h
theorem qZ {P:Prop} (h:P:=by
 rw[decide_eq_false (by omega)]
 go_enter Tryz.func110,Tryz.ntmps110
 go_wp2_with fail
 refine wp_loop_rounds 3 ?_;rw[rounds_succ]
 go_wp2_with fail
 rw[rounds_succ];exact qC):P:=h
theorem qa {P:Prop} (h:P:=by
 rw[decide_eq_false (by omega)]
 go_enter Tryz.func110,Tryz.ntmps110
 go_wp2_with fail
 refine wp_loop_rounds 3 ?_;rw[rounds_succ];exact qC):P:=h
theorem qi {P:Prop} (h:P:=by
 rw[rounds_succ]
 go_wp2_with fail
 rw[rounds_succ];exact qC):P:=h
theorem q7 {P:Prop} (h:P:=by
 go_enter Tryz.func74,Tryz.ntmps74
 exact qC):P:=h
theorem zE {P:Prop} (h:P:=by
 have e:argN op= -1:=by unfold argN;rw[if_neg (by omega),if_neg (by omega),if_pos (by omega)]
 rw[e];clear e
 go_enter Tryz.func109,Tryz.ntmps109
 go_wp2_with fail
 go_ret;exact⟨rfl,rfl⟩):P:=h
theorem zF {P:Prop} (h:P:=by
 go_ret;exact⟨by rw[E.out];rfl,Hb2.out⟩):P:=h
theorem zL {P:Prop} (h:P:=by
 go_ret;exact⟨rfl,((qAk _ _).alloc (qAi _) _).alloc (by simp) _⟩):P:=h
theorem zS {P:Prop} (h:P:=by
 rw[decide_eq_true (by omega)]
 go_enter Tryz.func110,Tryz.ntmps110
 go_wp2_with fail
 refine wp_loop_rounds 3 ?_;rw[rounds_succ]
 go_wp2_with fail
 exact qi):P:=h
def typL:Lay Typ where
 k:=2
 R _ _ cs t:=cs=[.int .i64 t.1,.int .i64 t.2]∧I64 t.1∧I64 t.2
 len:=by rintro S w cs x ⟨rfl,_⟩;rfl
 keep:=by rintro S w w' cs x h _;exact h
 wide:=by rintro S T w cs x h _;exact h
 one:=by rintro S w cs x ⟨rfl,_⟩ u hu;simp at hu;rcases hu with rfl|rfl<;>rfl
def insL:Lay Ins where
 k:=3
 R _ _ cs t:=cs=[.int .i64 t.1,.int .i64 t.2.1,.int .i64 t.2.2]∧I64 t.1∧I64 t.2.1∧I64 t.2.2
 len:=by rintro S w cs x ⟨rfl,_⟩;rfl
 keep:=by rintro S w w' cs x h _;exact h
 wide:=by rintro S T w cs x h _;exact h
 one:=by rintro S w cs x ⟨rfl,_⟩ u hu;simp at hu;rcases hu with rfl|rfl|rfl<;>rfl
def strB (s:ByteArray):List Nat:=s.data.toList.map UInt8.toNat
def strL:Lay (List Nat) where
 k:=1
 R _ _ cs xs:=∃s,cs=[.string s]∧xs=strB s
 len:=by rintro S w cs x ⟨s,rfl,_⟩;rfl
 keep:=by rintro S w w' cs x h _;exact h
 wide:=by rintro S T w cs x h _;exact h
 one:=by rintro S w cs x ⟨s,rfl,_⟩ u hu;simp at hu;subst hu;rfl
abbrev tysL:Lay (List Typ):=slL typL
abbrev codL:Lay (List Ins):=slL insL
def fnL:Lay Fn where
 k:=5
 R S w cs f:=∃v0 v1 v2,cs=[v0,.int .i64 f.ret.1,.int .i64 f.ret.2,v1,v2]∧I64 f.ret.1∧I64 f.ret.2∧tysL.R S w [v0] f.args∧tysL.R S w [v1] f.locs∧codL.R S w [v2] f.code
 len:=by rintro S w cs x ⟨v0,v1,v2,rfl,_⟩;rfl
 keep:=by rintro S w w' cs x ⟨v0,v1,v2,rfl,h1,h2,h3,h4,h5⟩ hk;exact⟨v0,v1,v2,rfl,h1,h2,tysL.keep h3 hk,tysL.keep h4 hk,codL.keep h5 hk⟩
 wide:=by rintro S T w cs x ⟨v0,v1,v2,rfl,h1,h2,h3,h4,h5⟩ hk;exact⟨v0,v1,v2,rfl,h1,h2,tysL.wide h3 hk,tysL.wide h4 hk,codL.wide h5 hk⟩
 one:=by
  rintro S w cs x ⟨v0,v1,v2,rfl,h1,h2,h3,h4,h5⟩ u hu;simp at hu;rcases hu with rfl|rfl|rfl|rfl|rfl
  · exact tysL.one h3 _ (by simp)
  · rfl
  · rfl
  · exact tysL.one h4 _ (by simp)
  · exact codL.one h5 _ (by simp)
def impL:Lay Imp where
 k:=3
 R S w cs f:=∃v0,cs=[v0,.int .i64 f.ret.1,.int .i64 f.ret.2]∧I64 f.ret.1∧I64 f.ret.2∧tysL.R S w [v0] f.args
 len:=by rintro S w cs x ⟨v0,rfl,_⟩;rfl
 keep:=by rintro S w w' cs x ⟨v0,rfl,h1,h2,h3⟩ hk;exact⟨v0,rfl,h1,h2,tysL.keep h3 hk⟩
 wide:=by rintro S T w cs x ⟨v0,rfl,h1,h2,h3⟩ hk;exact⟨v0,rfl,h1,h2,tysL.wide h3 hk⟩
 one:=by
  rintro S w cs x ⟨v0,rfl,h1,h2,h3⟩ u hu;simp at hu;rcases hu with rfl|rfl|rfl
  · exact tysL.one h3 _ (by simp)
  · rfl
  · rfl
def modL:Lay Mod where
 k:=5
 R S w cs m:=∃v0 v1 v2 v3 v4,cs=[v0,v1,v2,v3,v4]∧(slL tysL).R S w [v0] m.recs∧(slL fnL).R S w [v1] m.funcs∧(slL impL).R S w [v2] m.imps∧(slL numL).R S w [v3] m.ints∧(slL strL).R S w [v4] m.texts
 len:=by rintro S w cs x ⟨v0,v1,v2,v3,v4,rfl,_⟩;rfl
 keep:=by rintro S w w' cs x ⟨v0,v1,v2,v3,v4,rfl,h0,h1,h2,h3,h4⟩ hk;exact⟨v0,v1,v2,v3,v4,rfl,(slL tysL).keep h0 hk,(slL fnL).keep h1 hk,(slL impL).keep h2 hk,(slL numL).keep h3 hk,(slL strL).keep h4 hk⟩
 wide:=by rintro S T w cs x ⟨v0,v1,v2,v3,v4,rfl,h0,h1,h2,h3,h4⟩ hk;exact⟨v0,v1,v2,v3,v4,rfl,(slL tysL).wide h0 hk,(slL fnL).wide h1 hk,(slL impL).wide h2 hk,(slL numL).wide h3 hk,(slL strL).wide h4 hk⟩
 one:=by
  rintro S w cs x ⟨v0,v1,v2,v3,v4,rfl,h0,h1,h2,h3,h4⟩ u hu;simp at hu;rcases hu with rfl|rfl|rfl|rfl|rfl
  · exact(slL tysL).one h0 _ (by simp)
  · exact(slL fnL).one h1 _ (by simp)
  · exact(slL impL).one h2 _ (by simp)
  · exact(slL numL).one h3 _ (by simp)
  · exact(slL strL).one h4 _ (by simp)
theorem qBj (s:ByteArray):(strB s).length=s.size:=by simp[strB]
theorem qDo (s:ByteArray):Lib.strCells s=Bs (strB s):=by simp[Lib.strCells,Bs,strB]
def Puts (ys:List Nat) (w:World) (e:Ending) (w':World):Prop:=∃u,e= .returned u∧w'.ownsRow w.heap.size 5 1 u ys.length (Bs ys)∧Below w.heap.size w w'
theorem qDa (w:World) {ops:Array Oper} {rest:List Oper} {o:Oper} {a:Act} {Q:Exit→Act→World→Prop} (hgd:o.guard=none) (sl x:Operand)
 (ho:o.op= .call {callee:= .builtin .append,args:= #[sl,x],argTypes:= #[62,9]})
 (base:Nat) (v:Value) (n:Nat) (xs:List Nat) (hs:a.eval sl=v) (hown:w.ownsRow base 5 1 v n (Bs xs)) (s:ByteArray) (hx:a.eval x= .string s)
 (hbig:n+(strB s).length≤140737488355328) (hbase:base≤w.heap.size)
 (h:∀v' w',w'.ownsRow base 5 1 v' (n+(strB s).length) (Bs (xs++strB s))→w.grownBy w' v.ownBlock→wpList Tryz.prog ops Q rest (a.put o.dst v') w'):wpList Tryz.prog ops Q (o::rest) a w:=by
 obtain⟨i0,hi0,hz0,hz1,hz2⟩:=info_parts qCr;rw[qBj] at hbig h;refine Lib.wpList_append_own_string _ hgd sl x 62 9 ho base 5 i0 Tryz.underlying62 Tryz.underlying9 hi0 hz0 hz1 hz2 v n (Bs xs) hs hown s hx zh hbig hbase ?_;intro v' w' h1 h2 _;rw[qDo,←qHC] at h1;exact h v' w' h1 h2
def C5 (b:Nat) (v0 v1 v2 v3 v4:Value) (w:World):Prop:=w.cell? ⟨b,0,none⟩=some v0∧w.cell? ⟨b,1,none⟩=some v1∧w.cell? ⟨b,2,none⟩=some v2∧w.cell? ⟨b,3,none⟩=some v3∧w.cell? ⟨b,4,none⟩=some v4
theorem C5.below {b B:Nat} {v0 v1 v2 v3 v4:Value} {w':World} (h:C5 b v0 v1 v2 v3 v4 w) (hb:Below B w w') (hB:b<B):C5 b v0 v1 v2 v3 v4 w':=
 ⟨(hb.cell (p:=⟨b,0,none⟩) hB).trans h.1,(hb.cell (p:=⟨b,1,none⟩) hB).trans h.2.1,(hb.cell (p:=⟨b,2,none⟩) hB).trans h.2.2.1,(hb.cell (p:=⟨b,3,none⟩) hB).trans h.2.2.2.1,(hb.cell (p:=⟨b,4,none⟩) hB).trans h.2.2.2.2⟩
theorem qBJ (f:α→List Nat) (xs:List α) (k:Nat) (x:α) (h:xs[k]? =some x):((xs.take (k+1)).map f).flatten=((xs.take k).map f).flatten++f x:=by
 obtain⟨hk,rfl⟩:=qAj.1 h;rw[qAp hk,List.map_append,List.flatten_append];simp
theorem qBd (f:α→List Nat) (xs:List α) (k:Nat):((xs.take k).map f).flatten.length≤(xs.map f).flatten.length:=by
 conv=>rhs;rw[←List.take_append_drop k xs,List.map_append,List.flatten_append]
 rw[List.length_append]
 omega
def fn0:Fn:=⟨[],(1,0),[],[(26,0,0)]⟩
theorem qBS {w1:World} {cs:List Value} {m:Mod} (h:modL.R (·<w.heap.size) w cs m) (hb:Below w.heap.size w w1):modL.R (·<w1.heap.size) w1 cs m:=
 modL.wide (modL.keep h fun b hb1=>hb.block b hb1) fun _ hb1=>qAh hb1 hb.size
theorem qCa {S:Nat→Prop} {cs:List Value} {m:Mod} (h:modL.R S w cs m):∃A0 A1 A2 A3 A4 n0 n1 n2 n3 n4 c0 c1 c2 c3 c4,cs=[.slice A0 n0 c0,.slice A1 n1 c1,.slice A2 n2 c2,.slice A3 n3 c3,.slice A4 n4 c4]:=by
 obtain⟨_,_,_,_,_,rfl,⟨A0,d0,e0,-⟩,⟨A1,d1,e1,-⟩,⟨A2,d2,e2,-⟩,⟨A3,d3,e3,-⟩,⟨A4,d4,e4,-⟩⟩:=h;simp only[List.cons.injEq,and_true] at e0 e1 e2 e3 e4;subst e0 e1 e2 e3 e4;exact⟨A0,A1,A2,A3,A4,_,_,_,_,_,d0,d1,d2,d3,d4,rfl⟩
def mE:Mod:=⟨[],[],[],[],[]⟩
open Go.ChangeShapes Go.WideShapes Go.ChangeAt Go.RowKit
def Opens {α:Type} (t:TypeId) (L:Lay α):Prop:=∀{H:Type} {enc:TypeId×Value→H} {W:World} {cs:List Value} {x:DataW H×List MemPlace} {fuel:Nat},DataW.trod enc Tryz.prog W 0 (fun _=>true) true fuel t cs=some x→∃y,L.R (·<W.heap.size) W cs y
theorem qD9 {n:Int} (h:(Lit.int .i64 n).wf=true):I64 n:=by
 have hmin:IntKind.i64.min= -9223372036854775808:=rfl;have hmax:IntKind.i64.max=9223372036854775807:=rfl;simp only[Lit.wf,Bool.and_eq_true,decide_eq_true_eq] at h;unfold I64
 omega
theorem qHv:Opens 57 numL:=by
 intro H enc W cs x fuel hf;obtain⟨z,rfl,_,hw⟩:=DataW.trod_int Tryz.underlying57 hf;have hb:=bounds_u64 hw;exact⟨z.toNat,by show[Value.int .u64 z]=_;rw[Int.toNat_of_nonneg hb.1],by unfold B64;omega⟩
open Go.ChangeShapes Go.WideShapes Go.ChangeAt Go.RowKit
instance:Inhabited Fn:=⟨⟨[],(0,0),[],[]⟩⟩
instance:Inhabited Imp:=⟨⟨[],(0,0)⟩⟩
theorem qDA:Opens 41 typL:=by
 intro H enc W cs x fuel hf;obtain⟨xs,k,hk,hxy,hl,hxl,hfl⟩:=DataW.trod_struct Tryz.underlying41 hf;rw[show Tryz.prog.cellsOf 41=2 by kernel_rfl] at hl
 match xs,hxl,cs,hl with
 |[y0,y1],_,[v0,v1],_=>
  have g0:=hfl 0 _ rfl;have g1:=hfl 1 _ rfl;simp[show Tryz.prog.cellsOf 3=1 by kernel_rfl] at g0 g1;obtain⟨z0,e0,_,w0⟩:=DataW.trod_int Tryz.underlying3 g0;obtain⟨z1,e1,_,w1⟩:=DataW.trod_int Tryz.underlying3 g1;simp at e0 e1;subst e0 e1;exact⟨(z0,z1),rfl,qD9 w0,qD9 w1⟩
theorem qHw:Opens 52 insL:=by
 intro H enc W cs x fuel hf;obtain⟨xs,k,hk,hxy,hl,hxl,hfl⟩:=DataW.trod_struct Tryz.underlying52 hf;rw[show Tryz.prog.cellsOf 52=3 by kernel_rfl] at hl
 match xs,hxl,cs,hl with
 |[y0,y1,y2],_,[v0,v1,v2],_=>
  have g0:=hfl 0 _ rfl;have g1:=hfl 1 _ rfl;have g2:=hfl 2 _ rfl;simp[show Tryz.prog.cellsOf 3=1 by kernel_rfl] at g0 g1 g2;obtain⟨z0,e0,_,w0⟩:=DataW.trod_int Tryz.underlying3 g0;obtain⟨z1,e1,_,w1⟩:=DataW.trod_int Tryz.underlying3 g1;obtain⟨z2,e2,_,w2⟩:=DataW.trod_int Tryz.underlying3 g2;simp at e0 e1 e2;subst e0 e1 e2;exact⟨(z0,z1,z2),rfl,qD9 w0,qD9 w1,qD9 w2⟩
open Go.ChangeShapes Go.WideShapes Go.ChangeAt Go.RowKit
def OpensZ {α:Type} (t:TypeId) (L:Lay α) (Z:α→Prop):Prop:=∀{H:Type} {enc:TypeId×Value→H} {W:World} {cs:List Value} {x:DataW H×List MemPlace} {fuel:Nat},DataW.trod enc Tryz.prog W 0 (fun _=>true) true fuel t cs=some x→
 (∀n∈x.1.weights Tryz.prog t,n≤reachBytes)→∃y,L.R (·<W.heap.size) W cs y∧Z y
def Zl {α:Type} (Z:α→Prop) (xs:List α):Prop:=xs.length≤reachBytes∧∀x∈xs,Z x
theorem qCL {H:Type} {P:Program} {e:TypeId}:∀{ds:List (DataW H)} {d:DataW H},d∈ds→∀n∈d.weights P e,n∈DataW.weightsAll P e ds
 |d0::ds,d,hd,n,hn=>by
  simp only[DataW.weightsAll,List.mem_append];rcases List.mem_cons.1 hd with rfl|h
  · exact .inl hn
  · exact .inr (qCL h n hn)
theorem qBP [Inhabited α] {e:TypeId} {L:Lay α} {Z:α→Prop} (hk:0<L.k) (ht:Tryz.prog.underlying t=some (.slice e)) (hc:Tryz.prog.cellsOf e=L.k) (hby:0<Tryz.prog.bytesOf e) (h:OpensZ e L Z):OpensZ t (slL L) (Zl Z):=by
 intro H enc W cs x fuel hf hwt;rcases Go.Deep.open_slice ht hf with⟨hcs,_⟩|⟨a,l,c,m,n,D,Pl,hcs,_,hl,hm,hmm,hxx,hx⟩
 · exact⟨[],⟨none,0,hcs,qAi _,by simp[maxLen],Sq.nil _ _ _ _⟩,by simp,by simp⟩
 · simp only[if_true] at hmm
   rw[hxx] at hwt;simp only[DataW.weights,ht] at hwt;have hlr:l≤reachBytes:=by
    have h1:=hwt _ (List.mem_cons_self ..);simp only[List.length_map,List.length_range] at h1;have h2:=Nat.mul_le_mul (show l≤l+(m-l) by omega) (show 1≤Tryz.prog.bytesOf e by omega)
    omega
   have hwe:∀i,i<l→∀n∈(D i).weights Tryz.prog e,n≤reachBytes:=fun i hi n hn=>
    hwt n (List.mem_cons_of_mem _ (List.mem_append_left _ (qCL (List.mem_map.2 ⟨i,List.mem_range.2 hi,rfl⟩) n hn)))
   have hall:∀i,i<l→∃y cs',(∀j u,cs'[j]? =some u→W.cell? (a.add (i*L.k+j))=some u)∧L.R (·<W.heap.size) W cs' y∧Z y:=fun i hi=>by
    obtain⟨cs',h1,h2⟩:=hx i (by omega);rw[hc] at h1;obtain⟨_,hlen,hcell⟩:=World.cells?_some h1;obtain⟨y,hy⟩:=h h2 (hwe i hi);refine⟨y,cs',fun j u hu=> ?_,hy⟩;have hj:j<cs'.length:=(qAj.1 hu).1;have:=hcell j (by omega);rw[qCG] at this;rw[this,hu]
   obtain⟨f,hf2⟩:=Go.Deep.choose_lt hall;refine⟨(List.range l).map f,⟨some a,c,by simpa using hcs,by simpa using hl,hm,fun hpos=>⟨a,rfl,?_,fun j y hj=> ?_⟩⟩,by simpa using hlr,fun y hy=> ?_⟩
   · simp at hpos
     obtain⟨cs',h1,h2,_⟩:=hf2 0 hpos;have hlen:=L.len h2;have:=qAr W _ (h1 0 (cs'[0]'(by omega)) (List.getElem?_eq_getElem _))
     rwa [qAz] at this
   · have hjl:j<l:=by
      have:=(qAj.1 hj).1;simpa using this
     have e:f j=y:=by simpa[hjl] using hj
     obtain⟨cs',h1,h2,_⟩:=hf2 j hjl;exact⟨cs',h1,e▸h2⟩
   · obtain⟨i,hi,rfl⟩:=List.mem_map.1 hy
     obtain⟨_,_,_,h3⟩:=hf2 i (List.mem_range.1 hi);exact h3
theorem OpensZ.of {L:Lay α} (h:Opens t L):OpensZ t L (fun _=>True):=fun hf _=>by
 obtain⟨y,hy⟩:=h hf;exact⟨y,hy,trivial⟩
theorem qBu {P:Program} {fs:Array Field} {parts:List (DataW H)} (ht:P.underlying t=some (.struct fs)) (h:∀n∈(DataW.agg parts).weights P t,n≤reachBytes) {i:Nat} {f:Field} {d:DataW H} (hf:fs[i]? =some f) (hd:parts[i]? =some d):∀n∈d.weights P f.type,n≤reachBytes:=by
 intro n hn;refine h n ?_;simp only[DataW.weights,ht];exact DataW.weights_mem_each (by simpa using⟨f,hf,rfl⟩) hd n hn
open Go.ChangeShapes Go.WideShapes Go.ChangeAt Go.RowKit
theorem qGh:OpensZ 9 strL (fun s=>s.length≤reachBytes):=by
 intro H enc W cs x fuel hf hwt;obtain⟨s,rfl,hx,_⟩:=DataW.trod_string Tryz.underlying9 hf;refine⟨strB s,⟨s,rfl,rfl⟩,?_⟩;have:=hwt s.size (by rw[hx];simp[DataW.weights])
 show(strB s).length≤reachBytes
 rw[qBj];exact this
abbrev Zt:List Typ→Prop:=Zl fun _=>True
theorem qCB:OpensZ 39 tysL Zt:=qBP qr Tryz.underlying39 qV zZ (OpensZ.of qDA)
theorem qGk:OpensZ 42 codL (Zl fun _=>True):=qBP qr Tryz.underlying42 qV zZ (OpensZ.of qHw)
def Zf (f:Fn):Prop:=Zt f.args∧Zt f.locs∧Zl (fun _=>True) f.code
def Zi (f:Imp):Prop:=Zt f.args
def Zm (m:Mod):Prop:=Zl Zt m.recs∧Zl Zf m.funcs∧Zl Zi m.imps∧Zl (fun _=>True) m.ints∧Zl (fun s=>s.length≤reachBytes) m.texts
theorem qHx:OpensZ 44 fnL Zf:=by
 intro H enc W cs x fuel hf hwt;obtain⟨xs,k,hk,hxy,hl,hxl,hfl⟩:=DataW.trod_struct Tryz.underlying44 hf;rw[hxy] at hwt;have hw:=fun i f d=>qBu (i:=i) (f:=f) (d:=d) Tryz.underlying44 hwt;rw[show Tryz.prog.cellsOf 44=5 by kernel_rfl] at hl
 match xs,hxl,cs,hl with
 |[y0,y1,y2,y3],_,[v0,v1,v2,v3,v4],_=>
  have g0:=hfl 0 _ rfl;have g1:=hfl 1 _ rfl;have g2:=hfl 2 _ rfl;have g3:=hfl 3 _ rfl;have w0:=hw 0 _ _ rfl rfl;have w2:=hw 2 _ _ rfl rfl;have w3:=hw 3 _ _ rfl rfl;simp[show Tryz.prog.cellsOf 39=1 by kernel_rfl,show Tryz.prog.cellsOf 41=2 by kernel_rfl,show Tryz.prog.cellsOf 42=1 by kernel_rfl] at g0 g1 g2 g3;obtain⟨a,ha,za⟩:=qCB g0 w0;obtain⟨r,hr,i1,i2⟩:=qDA g1;obtain⟨l,hl,zl⟩:=qCB g2 w2;obtain⟨c,hc,zc⟩:=qGk g3 w3;simp at hr;obtain⟨rfl,rfl⟩:=hr;exact⟨⟨a,r,l,c⟩,⟨v0,v3,v4,rfl,i1,i2,ha,hl,hc⟩,za,zl,zc⟩
theorem qGj:OpensZ 56 impL Zi:=by
 intro H enc W cs x fuel hf hwt;obtain⟨xs,k,hk,hxy,hl,hxl,hfl⟩:=DataW.trod_struct Tryz.underlying56 hf;rw[hxy] at hwt;have hw:=fun i f d=>qBu (i:=i) (f:=f) (d:=d) Tryz.underlying56 hwt;rw[show Tryz.prog.cellsOf 56=3 by kernel_rfl] at hl
 match xs,hxl,cs,hl with
 |[y0,y1],_,[v0,v1,v2],_=>
  have g0:=hfl 0 _ rfl;have g1:=hfl 1 _ rfl;have w0:=hw 0 _ _ rfl rfl;simp[show Tryz.prog.cellsOf 39=1 by kernel_rfl,show Tryz.prog.cellsOf 41=2 by kernel_rfl] at g0 g1;obtain⟨a,ha,za⟩:=qCB g0 w0;obtain⟨r,hr,i1,i2⟩:=qDA g1;simp at hr;obtain⟨rfl,rfl⟩:=hr;exact⟨⟨a,r⟩,⟨v0,rfl,i1,i2,ha⟩,za⟩
theorem qGi:OpensZ 28 modL Zm:=by
 intro H enc W cs x fuel hf hwt;obtain⟨xs,k,hk,hxy,hl,hxl,hfl⟩:=DataW.trod_struct Tryz.underlying28 hf;rw[hxy] at hwt;have hw:=fun i f d=>qBu (i:=i) (f:=f) (d:=d) Tryz.underlying28 hwt;rw[show Tryz.prog.cellsOf 28=5 by kernel_rfl] at hl
 match xs,hxl,cs,hl with
 |[y0,y1,y2,y3,y4],_,[v0,v1,v2,v3,v4],_=>
  have g0:=hfl 0 _ rfl;have g1:=hfl 1 _ rfl;have g2:=hfl 2 _ rfl;have g3:=hfl 3 _ rfl;have g4:=hfl 4 _ rfl;have w0:=hw 0 _ _ rfl rfl;have w1:=hw 1 _ _ rfl rfl;have w2:=hw 2 _ _ rfl rfl;have w3:=hw 3 _ _ rfl rfl;have w4:=hw 4 _ _ rfl rfl;simp[show Tryz.prog.cellsOf 22=1 by kernel_rfl,show Tryz.prog.cellsOf 23=1 by kernel_rfl,show Tryz.prog.cellsOf 24=1 by kernel_rfl,show Tryz.prog.cellsOf 25=1 by kernel_rfl,show Tryz.prog.cellsOf 26=1 by kernel_rfl] at g0 g1 g2 g3 g4;obtain⟨r,hr,zr⟩:=qBP (L:=tysL) qr Tryz.underlying22 qV zZ qCB g0 w0;obtain⟨f,hf,zf⟩:=qBP (L:=fnL) qr Tryz.underlying23 qV zZ qHx g1 w1;obtain⟨i,hi,zi⟩:=qBP (L:=impL) qr Tryz.underlying24 qV zZ qGj g2 w2;obtain⟨n,hn,zn⟩:=qBP (L:=numL) qr Tryz.underlying25 qV zZ (OpensZ.of qHv) g3 w3;obtain⟨s,hs,zs⟩:=qBP (L:=strL) qr Tryz.underlying26 qV zZ qGh g4 w4;exact⟨⟨r,f,i,n,s⟩,⟨v0,v1,v2,v3,v4,rfl,hr,hf,hi,hn,hs⟩,zr,zf,zi,zn,zs⟩
theorem qHy {enc:TypeId×Value→H} {W:World} {v:Value} {d:DataW H} {p:List MemPlace} (h:DataW.Trod enc Tryz.prog W 0 (fun _=>true) true 28 v d p) (hw:∀n∈d.weights Tryz.prog 28,n≤reachBytes):
 ∃cs m,v=vAgg cs∧modL.R (·<W.heap.size) W cs m∧Zm m:=by
 obtain⟨fuel,hf⟩:=h;obtain⟨m,hm,hz⟩:=qGi hf hw;have hl:=modL.len hm;have hv:v= .agg v.cells:=by
  cases v<;>first|rfl|exact absurd hl (by simp[Value.cells,modL])
 refine⟨v.cells.toList,m,?_,hm,hz⟩;rw[vAgg,Array.toArray_toList];exact hv
theorem qGE (A:Option Addr) (n c:Nat) (xs:List Typ) (lo hi:Int) (g:Typ→Bool) (p7:Addr) (w:World) (hl:xs.length=n) (h:Sq typL (·<w.heap.size) w A xs) (hn2:n≤9223372036854775807) (hlo: -1000≤lo∧lo≤1000) (hhi: -9223372036854775808≤hi∧hi≤1000)
 (hG:∀(w1:World) (cs:List Value) (x:Typ),Below w.heap.size w w1→x∈xs→typL.R (·<w1.heap.size) w1 cs x→Calls Tryz.prog 73 #[vAgg cs,.pointer (some p7)] w1 (Tells (g x) w1)):
 Calls Tryz.prog 76 #[.slice A n c,.int .i64 lo,.int .i64 hi,.func (.func 73) #[] #[.pointer (some p7)]] w (Tells (witB lo hi g xs) w):=by
 refine jH ?_;intro HL HS HP0 HW;clear hl h hG;refine qAb ?_;intro wb hwb;rw[hwb] at HW⊢;clear hwb
 by_cases h1:(n:Int)<lo
 · refine qAC ?_;intro e
   rw[e];clear HW e
   go_enter Tryz.func76,Tryz.ntmps76
   exact qY
 by_cases h2:hi<(n:Int)
 · refine qAC ?_;intro e
   rw[e];clear HW e
   go_enter Tryz.func76,Tryz.ntmps76
   exact qY
 replace HW:Hid (wb=xs.all g):=by
  show wb=xs.all g
  rw[HW.out];simp
  omega
 go_enter Tryz.func76,Tryz.ntmps76
 go_wp2_with fail
 go_loopw [23] (fun i wr=>∃k:Nat,k≤n∧i= .int .i64 (k:Nat)∧(xs.take k).all g=true∧Below w.heap.size w wr) (fun i _=>n-(intOf i).toNat)
 case atStart=>exact⟨0,qAq _,rfl,by simp,qAk _ _⟩
 case round=>
  obtain⟨k,hk,rfl,hall,hbel⟩:=hrel;have HA:=qAg hall;refine jc ?_;intro HB hs;clear hall hbel
  by_cases hlt:k<n
  · skip
    refine z7 ?_;intro x hx hmem;obtain⟨a,cs,rfl,hab,hc,hr⟩:=HS.out.at hx;have HX:=qAg hx;clear hx;have HR:=qAg hr;obtain⟨rfl,-,-⟩:=hr;refine jS ?_;intro c0 c1;rw[qAm a (k*2) 1 (by omega)] at c1;have HP:Hid (∀w1,Below w.heap.size w w1→Calls Tryz.prog 73 #[.agg #[.int .i64 x.1,.int .i64 x.2],.pointer (some p7)] w1 (Tells (g x) w1)):=fun w1 hb=>HP0.out w1 [.int .i64 x.1,.int .i64 x.2] x hb hmem (typL.wide (typL.keep HR.out fun b hb1=>hb.block b hb1) fun b hb1=>qAh hb1 hb.size);clear hc
    cases hg:g x
    · rw[hg] at HP
      refine jb ?_;intro e E;clear e hg
      go_wp2_with (first
       |(go_at_call 73
         refine(HP.out _ (HB.out.alloc hs _)).mono ?_;rintro e w2 ⟨rfl,hb2⟩;refine jg ?_;intro Hb2;clear hb2))
      exact zF
    · rw[hg] at HP
      have HG:=qAg hg;clear hg
      go_wp2_with (first
       |(go_at_call 73
         refine(HP.out _ (HB.out.alloc hs _)).mono ?_;rintro e w2 ⟨rfl,hb2⟩;refine jg ?_;intro Hb2;clear hb2))
      exact qf
  · exact qN
theorem qGH (A:Option Addr) (n c:Nat) (xs:List Ins) (lo hi:Int) (g:Ins→Bool) (w:World) (hl:xs.length=n) (h:Sq insL (·<w.heap.size) w A xs) (hn2:n≤9223372036854775807) (hlo: -1000≤lo∧lo≤1000) (hhi: -9223372036854775808≤hi∧hi≤1000)
 (hG:∀(w1:World) (cs:List Value) (x:Ins),Below w.heap.size w w1→x∈xs→insL.R (·<w1.heap.size) w1 cs x→Calls Tryz.prog 80 #[vAgg cs] w1 (Tells (g x) w1)):
 Calls Tryz.prog 79 #[.slice A n c,.int .i64 lo,.int .i64 hi,.func (.func 80) #[] #[]] w (Tells (witB lo hi g xs) w):=by
 refine jH ?_;intro HL HS HP0 HW;clear hl h hG;refine qAb ?_;intro wb hwb;rw[hwb] at HW⊢;clear hwb
 by_cases h1:(n:Int)<lo
 · refine qAC ?_;intro e
   rw[e];clear HW e
   go_enter Tryz.func79,Tryz.ntmps79
   exact qY
 by_cases h2:hi<(n:Int)
 · refine qAC ?_;intro e
   rw[e];clear HW e
   go_enter Tryz.func79,Tryz.ntmps79
   exact qY
 replace HW:Hid (wb=xs.all g):=by
  show wb=xs.all g
  rw[HW.out];simp
  omega
 go_enter Tryz.func79,Tryz.ntmps79
 go_wp2_with fail
 go_loopw [23] (fun i wr=>∃k:Nat,k≤n∧i= .int .i64 (k:Nat)∧(xs.take k).all g=true∧Below w.heap.size w wr) (fun i _=>n-(intOf i).toNat)
 case atStart=>exact⟨0,qAq _,rfl,by simp,qAk _ _⟩
 case round=>
  obtain⟨k,hk,rfl,hall,hbel⟩:=hrel;have HA:=qAg hall;refine jc ?_;intro HB hs;clear hall hbel
  by_cases hlt:k<n
  · skip
    refine z7 ?_;intro x hx hmem;obtain⟨a,cs,rfl,hab,hc,hr⟩:=HS.out.at hx;have HX:=qAg hx;clear hx;have HR:=qAg hr;obtain⟨rfl,-,-,-⟩:=hr;refine jT ?_;intro c0 c1;rw[qAm a (k*3) 1 (by omega)] at c1;refine qAI ?_;intro c2;rw[qAm a (k*3) 2 (by omega)] at c2;have HP:Hid (∀w1,Below w.heap.size w w1→Calls Tryz.prog 80 #[.agg #[.int .i64 x.1,.int .i64 x.2.1,.int .i64 x.2.2]] w1 (Tells (g x) w1)):=fun w1 hb=>HP0.out w1 [.int .i64 x.1,.int .i64 x.2.1,.int .i64 x.2.2] x hb hmem (insL.wide (insL.keep HR.out fun b hb1=>hb.block b hb1) fun b hb1=>qAh hb1 hb.size);clear hc
    cases hg:g x
    · rw[hg] at HP
      refine jb ?_;intro e E;clear e hg
      go_wp2_with (first
       |(go_at_call 80
         refine(HP.out _ (HB.out.alloc hs _)).mono ?_;rintro e w2 ⟨rfl,hb2⟩;refine jg ?_;intro Hb2;clear hb2))
      exact zF
    · rw[hg] at HP
      have HG:=qAg hg;clear hg
      go_wp2_with (first
       |(go_at_call 80
         refine(HP.out _ (HB.out.alloc hs _)).mono ?_;rintro e w2 ⟨rfl,hb2⟩;refine jg ?_;intro Hb2;clear hb2))
      exact qf
  · exact qN
theorem kgood (k n r:Int) (w:World):Calls Tryz.prog 74 #[.agg #[.int .i64 k,.int .i64 n],.int .i64 r] w fun e w'=>e= .returned (.bool (goodB k n r))∧Below w.heap.size w w':=by
 by_cases h1:k=1
 · subst h1
   exact q7
 by_cases h2:k=2
 · subst h2
   exact q7
 by_cases h3:k=3
 · subst h3
   exact q7
 by_cases h7:k=7
 · subst h7
   exact q7
 by_cases h4:k=4
 · subst h4
   by_cases hn:0≤n
   · have e:goodB 4 n r=decide (n<r):=by simp[goodB,hn]
     rw[e];clear e;exact q7
   · have e:goodB 4 n r=false:=by simp[goodB,hn]
     rw[e];clear e;exact q7
 by_cases h5:k=5
 · subst h5
   by_cases hn:0≤n
   · have e:goodB 5 n r=decide (n<4):=by simp[goodB,hn]
     rw[e];clear e;exact q7
   · have e:goodB 5 n r=false:=by simp[goodB,hn]
     rw[e];clear e;exact q7
 have e:goodB k n r=false:=by simp[goodB,h1,h2,h3,h7,h4,h5]
 rw[e];clear e
 go_enter Tryz.func74,Tryz.ntmps74
 go_wp2_with fail
 go_ret;exact⟨rfl,(qAk _ _).alloc (qAi _) _⟩
theorem qCz (op:Int) (w:World):Calls Tryz.prog 109 #[.int .i64 op] w fun e w'=>e= .returned (.int .i64 (argN op))∧w=w':=by
 by_cases hc:op=29∨op=30∨op=0∨op=1∨op=3∨op=4∨op=23∨op=24∨op=25∨op=27∨op=28
 · rcases hc with rfl|rfl|rfl|rfl|rfl|rfl|rfl|rfl|rfl|rfl|rfl
   all_goals
    go_enter Tryz.func109,Tryz.ntmps109
    go_wp2_with fail
    go_ret;exact⟨rfl,rfl⟩
 · obtain⟨n29,n30,n0,n1,n3,n4,n23,n24,n25,n27,n28⟩:op≠29∧op≠30∧op≠0∧op≠1∧op≠3∧op≠4∧op≠23∧op≠24∧op≠25∧op≠27∧op≠28:=by omega
   clear hc
   by_cases hlo:op<0
   · exact zE
   by_cases hhi:42≤op
   · exact zE
   have e:argN op=0:=by unfold argN;rw[if_neg (by omega),if_neg (by omega),if_neg (by omega)]
   rw[e];clear e
   go_enter Tryz.func109,Tryz.ntmps109
   go_wp2_with fail
   go_ret;exact⟨rfl,rfl⟩
theorem qDi (n a b:Int) (w:World):Calls Tryz.prog 110 #[.agg #[.int .i64 a,.int .i64 b],.int .i64 n] w fun e w'=>e= .returned (.bool (fitN n a b))∧Below w.heap.size w w':=by
 have i0:∀w,(Instr.index 152 (.agg #[.int .i64 a,.int .i64 b]) (.int .i64 0)).run Tryz.prog w= .ok (.int .i64 a) w:=fun _=>by kernel_rfl
 have i1:∀w,(Instr.index 152 (.agg #[.int .i64 a,.int .i64 b]) (.int .i64 1)).run Tryz.prog w= .ok (.int .i64 b) w:=fun _=>by kernel_rfl
 unfold fitN
 by_cases h0:0<n
 · rw[if_pos h0]
   by_cases h1:1<n
   · rw[if_pos h1]
     by_cases a0:a<0
     · exact qa
     by_cases a1:255<a
     · exact qa
     by_cases b0:b<0
     · exact qZ
     by_cases b1:255<b
     · exact qZ
     exact zS
   · rw[if_neg h1]
     by_cases a0:a<0
     · exact qa
     by_cases a1:255<a
     · exact qa
     by_cases b0:b<0
     · exact qZ
     by_cases b1:0<b
     · exact qZ
     exact zS
 · rw[if_neg h0,if_neg (by omega)]
   have h1:¬1<n:=by omega
   by_cases a0:a<0
   · exact qa
   by_cases a1:0<a
   · exact qa
   by_cases b0:b<0
   · exact qZ
   by_cases b1:0<b
   · exact qZ
   exact zS
theorem qEt:wid 1=1:=by decide
theorem qG1 (o:Nat) (h:o<256):fb o 1=[o]:=by simp[fb];omega
theorem qH5 (op a b:Int) (w:World) (h:goodI op a b=false):
 Calls Tryz.prog 92 #[.agg #[.int .i64 op,.int .i64 a,.int .i64 b]] w fun e w'=>e= .returned (.slice none 0 0)∧Below w.heap.size w w':=by
 unfold goodI at h;have AR:=qAg (fun w=>qCz op w);obtain⟨n,hn⟩:∃n,argN op=n:=⟨_,rfl⟩;rw[hn] at h AR;have FT:=qAg (fun w=>qDi n a b w);clear hn
 by_cases h0:n<0
 · clear h
   go_enter Tryz.func92,Tryz.ntmps92
   go_wp2_with (first
    |(go_at_call 109
      refine(AR.out _).mono ?_;rintro e w1 ⟨rfl,rfl⟩))
   exact zL
 · have hf:fitN n a b=false:=by
    rw[decide_eq_true (by omega)] at h;simpa using h
   rw[hf] at FT;clear hf h
   go_enter Tryz.func92,Tryz.ntmps92
   go_wp2_with (first
    |(go_at_call 109
      refine(AR.out _).mono ?_;rintro e w1 ⟨rfl,rfl⟩)
    |(go_at_call 110
      refine(FT.out _).mono ?_;rintro e w2 ⟨rfl,hb2⟩;have HB2:=qAg hb2;clear hb2))
   go_ret;exact⟨rfl,(((qAk _ _).alloc (qAi _) _).alloc (by simp) _).trans (HB2.out.mono qK)⟩
theorem arr_new (w:World) (o:Obj) (t:TypeId) (cs:Array Value):Blk ((w.alloc o).alloc (.cells cs t)) (w.heap.size+1) t cs:=by
 have:=heap_alloc_new (w.alloc o) (.cells cs t);simpa[Blk] using this
theorem iput_0 (o x y:Nat) (w:World) (h:goodI o x y=true) (hn:argN o=0):
 Calls Tryz.prog 92 #[.agg #[.int .i64 (o:Nat),.int .i64 (x:Nat),.int .i64 (y:Nat)]] w fun e w'=>∃u,e= .returned u∧w'.ownsRow w.heap.size 5 1 u (insB o x y).length (Bs (insB o x y))∧Below w.heap.size w w':=by
 have AR:=qAg (fun w=>qCz o w);rw[hn] at AR;have FT:=qAg (fun w=>qDi 0 x y w);have hf:fitN 0 x y=true:=by
  unfold goodI at h;rw[hn] at h;simpa using h
 rw[hf] at FT;obtain⟨o',x',y',eo,ex,ey,ho,hx,hy,-⟩:=qA6 h;obtain rfl:o=o':=by omega
 obtain rfl:x=x':=by omega
 obtain rfl:y=y':=by omega
 have HE:Hid (insB o x y=[o]++bodyB 0 x y):=by
  show insB o x y=[o]++bodyB 0 x y
  rw[qBX h,hn]
  rfl
 have HO:Hid (o<256):=by show o<256;omega
 have HO64:Hid (o<B64):=by show o<B64;unfold B64;omega
 refine zx ?_;intro HX64 HY64 HL1 HL2;clear hf hn h eo ex ey
 go_enter Tryz.func92,Tryz.ntmps92
 go_wp2_with (first
  |(go_at_call 109
    refine(AR.out _).mono ?_;rintro e w1 ⟨rfl,rfl⟩)
  |(go_at_call 110
    refine(FT.out _).mono ?_;rintro e w2 ⟨rfl,hb2⟩;refine jE ?_;intro HB2 hk k0 hs2 HA2;simp at k0;clear hb2 hk)
  |(go_at_call 93
    refine(qCe o 1 w2 HO64.out).mono ?_;rintro e w3 ⟨u3,rfl,hown3,hb3⟩;rw[qEt,qG1 o HO.out] at hown3;refine jy ?_;intro HO3 HB3 HA3 a30;simp at a30;clear hown3 hb3))
 refine wp_loop_rounds 3 ?_;rw[rounds_succ]
 go_wp2_with fail
 go_ret;have e:insB o x y=[o]:=by rw[HE.out];simp[bodyB]
 have el:(insB o x y).length=1:=by rw[e];simp;try omega
 rw[el,e];exact⟨_,rfl,qBQ HO3.out HB2.out.size,HB2.out.trans (HB3.out.mono HB2.out.size)⟩
theorem iput_1 (o x y:Nat) (w:World) (h:goodI o x y=true) (hn:argN o=1):
 Calls Tryz.prog 92 #[.agg #[.int .i64 (o:Nat),.int .i64 (x:Nat),.int .i64 (y:Nat)]] w fun e w'=>∃u,e= .returned u∧w'.ownsRow w.heap.size 5 1 u (insB o x y).length (Bs (insB o x y))∧Below w.heap.size w w':=by
 have AR:=qAg (fun w=>qCz o w);rw[hn] at AR;have FT:=qAg (fun w=>qDi 1 x y w);have hf:fitN 1 x y=true:=by
  unfold goodI at h;rw[hn] at h;simpa using h
 rw[hf] at FT;obtain⟨o',x',y',eo,ex,ey,ho,hx,hy,-⟩:=qA6 h;obtain rfl:o=o':=by omega
 obtain rfl:x=x':=by omega
 obtain rfl:y=y':=by omega
 have HE:Hid (insB o x y=[o]++bodyB 1 x y):=by
  show insB o x y=[o]++bodyB 1 x y
  rw[qBX h,hn]
  rfl
 have HO:Hid (o<256):=by show o<256;omega
 have HO64:Hid (o<B64):=by show o<B64;unfold B64;omega
 refine zx ?_;intro HX64 HY64 HL1 HL2;clear hf hn h eo ex ey
 go_enter Tryz.func92,Tryz.ntmps92
 go_wp2_with (first
  |(go_at_call 109
    refine(AR.out _).mono ?_;rintro e w1 ⟨rfl,rfl⟩)
  |(go_at_call 110
    refine(FT.out _).mono ?_;rintro e w2 ⟨rfl,hb2⟩;refine jE ?_;intro HB2 hk k0 hs2 HA2;simp at k0;clear hb2 hk)
  |(go_at_call 93
    refine(qCe o 1 w2 HO64.out).mono ?_;rintro e w3 ⟨u3,rfl,hown3,hb3⟩;rw[qEt,qG1 o HO.out] at hown3;refine jy ?_;intro HO3 HB3 HA3 a30;simp at a30;clear hown3 hb3))
 refine wp_loop_rounds 3 ?_;rw[rounds_succ]
 go_wp2_with (first
  |(go_at_call 87
    refine(qBN x w3 HX64.out).mono ?_;rintro e w4 ⟨u4,rfl,hown4,hb4⟩;obtain⟨A4,c4,rfl,-,-,-,hY4⟩:=qAu hown4;have HY4:=qAg hY4;have HO4:=qAg (qA0 HO3.out hb4 (qAi _));refine qAQ ?_;intro HB4;have HS4:=qAg HB4.out.size;clear hown4 hY4 hb4)
  |(at_builtin
    refine qAt _ rfl (.tmp 31) (.tmp 36) rfl w2.heap.size u3 1 [o] rfl HO4.out A4 (vb x).length c4 (vb x) rfl rfl _ HY4.out HL1.out HS4.out ?_;intro v5 w5 hown5 hg5 _;refine qAF ?_;intro HO5 HB5;have HA5:=qAg ((HB5.out.block (w.heap.size+1) (by omega)).trans HA2.out);have a51:=Blk.cell HA5.out 1;simp at a51;clear hown5 hg5))
 rw[rounds_succ]
 go_wp2_with fail
 go_ret;have e:insB o x y=[o]++vb x:=by rw[HE.out];simp[bodyB]
 have el:(insB o x y).length=1+(vb x).length:=by rw[e];simp;try omega
 rw[el,e];exact⟨_,rfl,qBQ HO5.out HB2.out.size,HB2.out.trans (HB5.out.mono HB2.out.size)⟩
theorem iput_2 (o x y:Nat) (w:World) (h:goodI o x y=true) (hn:argN o=2):
 Calls Tryz.prog 92 #[.agg #[.int .i64 (o:Nat),.int .i64 (x:Nat),.int .i64 (y:Nat)]] w fun e w'=>∃u,e= .returned u∧w'.ownsRow w.heap.size 5 1 u (insB o x y).length (Bs (insB o x y))∧Below w.heap.size w w':=by
 have AR:=qAg (fun w=>qCz o w);rw[hn] at AR;have FT:=qAg (fun w=>qDi 2 x y w);have hf:fitN 2 x y=true:=by
  unfold goodI at h;rw[hn] at h;simpa using h
 rw[hf] at FT;obtain⟨o',x',y',eo,ex,ey,ho,hx,hy,-⟩:=qA6 h;obtain rfl:o=o':=by omega
 obtain rfl:x=x':=by omega
 obtain rfl:y=y':=by omega
 have HE:Hid (insB o x y=[o]++bodyB 2 x y):=by
  show insB o x y=[o]++bodyB 2 x y
  rw[qBX h,hn]
  rfl
 have HO:Hid (o<256):=by show o<256;omega
 have HO64:Hid (o<B64):=by show o<B64;unfold B64;omega
 refine zx ?_;intro HX64 HY64 HL1 HL2;clear hf hn h eo ex ey
 go_enter Tryz.func92,Tryz.ntmps92
 go_wp2_with (first
  |(go_at_call 109
    refine(AR.out _).mono ?_;rintro e w1 ⟨rfl,rfl⟩)
  |(go_at_call 110
    refine(FT.out _).mono ?_;rintro e w2 ⟨rfl,hb2⟩;refine jE ?_;intro HB2 hk k0 hs2 HA2;simp at k0;clear hb2 hk)
  |(go_at_call 93
    refine(qCe o 1 w2 HO64.out).mono ?_;rintro e w3 ⟨u3,rfl,hown3,hb3⟩;rw[qEt,qG1 o HO.out] at hown3;refine jy ?_;intro HO3 HB3 HA3 a30;simp at a30;clear hown3 hb3))
 refine wp_loop_rounds 3 ?_;rw[rounds_succ]
 go_wp2_with (first
  |(go_at_call 87
    refine(qBN x w3 HX64.out).mono ?_;rintro e w4 ⟨u4,rfl,hown4,hb4⟩;obtain⟨A4,c4,rfl,-,-,-,hY4⟩:=qAu hown4;have HY4:=qAg hY4;have HO4:=qAg (qA0 HO3.out hb4 (qAi _));refine qAQ ?_;intro HB4;have HS4:=qAg HB4.out.size;clear hown4 hY4 hb4)
  |(at_builtin
    refine qAt _ rfl (.tmp 31) (.tmp 36) rfl w2.heap.size u3 1 [o] rfl HO4.out A4 (vb x).length c4 (vb x) rfl rfl _ HY4.out HL1.out HS4.out ?_;intro v5 w5 hown5 hg5 _;refine qAF ?_;intro HO5 HB5;have HA5:=qAg ((HB5.out.block (w.heap.size+1) (by omega)).trans HA2.out);have a51:=Blk.cell HA5.out 1;simp at a51;clear hown5 hg5))
 rw[rounds_succ]
 go_wp2_with (first
  |(go_at_call 87
    have hp:=HO5.out;clear hp;refine(qBN y w5 HY64.out).mono ?_;rintro e w6 ⟨u6,rfl,hown6,hb6⟩;obtain⟨A6,c6,rfl,-,-,-,hY6⟩:=qAu hown6;have HY6:=qAg hY6;have HO6:=qAg (qA0 HO5.out hb6 (qAi _));have HB6:=qAg (HB5.out.trans (hb6.mono HB5.out.size));have HS6:=qAg HB6.out.size;clear hown6 hY6 hb6)
  |(at_builtin
    have hp:=HO6.out;clear hp;refine qAt _ rfl (.tmp 31) (.tmp 36) rfl w2.heap.size v5 (1+(vb x).length) ([o]++vb x) rfl HO6.out A6 (vb y).length c6 (vb y) rfl rfl _ HY6.out HL2.out HS6.out ?_;intro v7 w7 hown7 hg7 _;have HO7:=qAg hown7;have HB7:=qAg (HB6.out.grown hg7 HS6.out (fun i hi=>(HO6.out.lt i hi).1));clear hown7 hg7))
 rw[rounds_succ]
 go_wp2_with fail
 go_ret;have e:insB o x y=[o]++vb x++vb y:=by rw[HE.out];simp[bodyB]
 have el:(insB o x y).length=1+(vb x).length+(vb y).length:=by rw[e];simp;try omega
 rw[el,e];exact⟨_,rfl,qBQ HO7.out HB2.out.size,HB2.out.trans (HB7.out.mono HB2.out.size)⟩
theorem qFz (op a b:Int) (w:World):
 Calls Tryz.prog 92 #[.agg #[.int .i64 op,.int .i64 a,.int .i64 b]] w fun e w'=>∃u,e= .returned u∧w'.ownsRow w.heap.size 5 1 u (insB op a b).length (Bs (insB op a b))∧Below w.heap.size w w':=by
 by_cases h:goodI op a b=true
 · obtain⟨o,x,y,rfl,rfl,rfl,-,-,-,h0,-⟩:=qA6 h
   rcases qEN o with hn|hn|hn|hn
   · omega
   · exact iput_0 o x y w h hn
   · exact iput_1 o x y w h hn
   · exact iput_2 o x y w h hn
 · rw[qCc h]
   refine(qH5 op a b w qy).mono ?_;rintro e w' ⟨rfl,hb⟩;exact⟨_,rfl,qHK _ _,hb⟩
structure Env (b g t r:Nat) (w:World):Prop where
 recs:∃A c,w.cell? ⟨b,0,none⟩=some (.slice A r c)
 good:w.cell? ⟨g,0,none⟩=some (.func (.func 73) #[] #[.pointer (some ⟨b,0,none⟩)])
 types:w.cell? ⟨t,0,none⟩=some (.func (.func 75) #[] #[.pointer (some ⟨g,0,none⟩)])
theorem Env.below {b g t r:Nat} {w':World} (h:Env b g t r w) (hb:Below w.heap.size w w'):Env b g t r w':=by
 obtain⟨A,c,h1⟩:=h.recs;exact⟨⟨A,c,(hb.cell (qAr w _ h1)).trans h1⟩,(hb.cell (qAr w _ h.good)).trans h.good,(hb.cell (qAr w _ h.types)).trans h.types⟩
theorem qEB (b:Nat) (x:Typ) (r:Nat) (w:World) (h:∃A c,w.cell? ⟨b,0,none⟩=some (.slice A r c)) (cs:List Value) (hr:typL.R (·<w.heap.size) w cs x):
 Calls Tryz.prog 73 #[vAgg cs,.pointer (some ⟨b,0,none⟩)] w (Tells (goodT r x) w):=by
 obtain⟨A,c,h1⟩:=h;obtain⟨rfl,i1,i2⟩:=hr
 show Calls Tryz.prog 73 #[.agg #[.int .i64 x.1,.int .i64 x.2],.pointer (some ⟨b,0,none⟩)] w (Tells (goodT r x) w)
 have hlt:=qAr w _ h1;simp only at hlt;have hne:b≠w.heap.size:=by omega
 have HC:Hid (∀w,Calls Tryz.prog 74 #[.agg #[.int .i64 x.1,.int .i64 x.2],.int .i64 (r:Int)] w (Tells (goodT r x) w)):=fun w=>kgood x.1 x.2 r w;generalize goodT r x=gd at*
 go_enter Tryz.func73,Tryz.ntmps73
 go_wp2_with (first|(go_at_call 74;refine(HC.out _).mono ?_;rintro e w1 ⟨rfl,hb⟩))
 go_ret;exact⟨rfl,((qAk _ _).alloc (qAi _) _).trans (hb.mono (by simp))⟩
theorem qCX (b g:Nat) (A:Option Addr) (n c:Nat) (ts:List Typ) (most:Int) (r:Nat) (w:World) (hrec:∃A c,w.cell? ⟨b,0,none⟩=some (.slice A r c))
 (hg:w.cell? ⟨g,0,none⟩=some (.func (.func 73) #[] #[.pointer (some ⟨b,0,none⟩)])) (hl:ts.length=n) (h:Sq typL (·<w.heap.size) w A ts) (hn:n≤9223372036854775807) (hm: -9223372036854775807≤most∧most≤1000):
 Calls Tryz.prog 75 #[.slice A n c,.int .i64 most,.pointer (some ⟨g,0,none⟩)] w (Tells (witB 0 most (goodT r) ts) w):=by
 have HC:Hid (Calls Tryz.prog 76 #[.slice A n c,.int .i64 0,.int .i64 most,.func (.func 73) #[] #[.pointer (some ⟨b,0,none⟩)]] w (Tells (witB 0 most (goodT r) ts) w)):=
  qGE A n c ts 0 most (goodT r) ⟨b,0,none⟩ w hl h hn (by omega) ⟨by omega,hm.2⟩ fun w1 cs x hb _ hr=>by
   obtain⟨A',c',h1⟩:=hrec;exact qEB b x r w1 ⟨A',c',(hb.cell (qAr w _ h1)).trans h1⟩ cs hr
 clear hrec hl h
 go_enter Tryz.func75,Tryz.ntmps75
 go_wp2_with (first|(go_at_call 76;refine HC.out.mono ?_;rintro e w1 ⟨rfl,hb⟩))
 go_ret;exact⟨rfl,hb⟩
theorem qGe (b g t r:Nat) (x:List Typ) (w:World) (he:Env b g t r w) (cs:List Value) (hr:tysL.R (·<w.heap.size) w cs x):
 Calls Tryz.prog 77 #[vOne cs,.pointer (some ⟨t,0,none⟩)] w (Tells (recOk r x) w):=by
 obtain⟨A,c,rfl,l1,l2,l3⟩:=hr
 show Calls Tryz.prog 77 #[.slice A x.length c,.pointer (some ⟨t,0,none⟩)] w (Tells (recOk r x) w)
 have ht:=he.types;obtain⟨n,hn⟩:∃n,x.length=n:=⟨_,rfl⟩;have hn2:n≤9223372036854775807:=by unfold maxLen at l2;omega
 have HC:Hid (Calls Tryz.prog 75 #[.slice A n c,.int .i64 6,.pointer (some ⟨g,0,none⟩)] w (Tells (recOk r x) w)):=qCX b g A n c x 6 r w he.recs he.good hn l3 hn2 (by omega);rw[hn];clear hn l1 l2 l3 he;generalize recOk r x=gd at*
 go_enter Tryz.func77,Tryz.ntmps77
 go_wp2_with (first|(go_at_call 75;refine HC.out.mono ?_;rintro e w1 ⟨rfl,hb⟩))
 go_ret;exact⟨rfl,hb⟩
theorem qF3 (x:Ins) (w:World) (cs:List Value) (hr:insL.R (·<w.heap.size) w cs x):Calls Tryz.prog 80 #[vAgg cs] w (Tells (goodIn x) w):=by
 obtain⟨rfl,-⟩:=hr
 show Calls Tryz.prog 80 #[.agg #[.int .i64 x.1,.int .i64 x.2.1,.int .i64 x.2.2]] w (Tells (goodIn x) w)
 have HC:Hid (∀w,Calls Tryz.prog 92 #[.agg #[.int .i64 x.1,.int .i64 x.2.1,.int .i64 x.2.2]] w (Puts (iB x) w)):=fun w=>qFz x.1 x.2.1 x.2.2 w;have hlen:=qE9 x;have hd:Hid (goodIn x=decide (0<(iB x).length)):=by
  show goodIn x=decide (0<(iB x).length)
  cases hg:goodIn x
  · have e:iB x=[]:=qCc (by rw[show goodI x.1 x.2.1 x.2.2=false from hg];simp)
    rw[e];simp
  · have:=qJP (op:=x.1) (a:=x.2.1) (b:=x.2.2) hg
    exact(decide_eq_true this).symm
 obtain⟨y,hy⟩:∃y,iB x=y:=⟨_,rfl⟩;rw[hy] at HC hd hlen;generalize goodIn x=gd at*;clear hy;generalize x.1=q1 at*;generalize x.2.1=q2 at*;generalize x.2.2=q3 at*
 go_enter Tryz.func80,Tryz.ntmps80
 go_wp2_with (first|(go_at_call 92;refine(HC.out _).mono ?_;rintro e w1 ⟨u,rfl,hown,hb⟩;obtain⟨A2,c2,rfl,-,-,-,-⟩:=qAu hown;clear hown;have HB:=qAg hb;clear hb))
 go_ret;refine⟨?_,((qAk _ _).alloc (qAi _) _).trans (HB.out.mono (by simp))⟩;rw[hd.out];simp
theorem qEU (x:List Nat) (w:World) (cs:List Value) (hr:strL.R (·<w.heap.size) w cs x):Calls Tryz.prog 86 #[vOne cs] w (Tells (shortB x) w):=by
 obtain⟨s,rfl,rfl⟩:=hr
 show Calls Tryz.prog 86 #[.string s] w (Tells (shortB (strB s)) w)
 have hd:Hid (shortB (strB s)=decide (s.size≤32)):=by show shortB (strB s)=_;rw[shortB,qBj]
 generalize shortB (strB s)=gd at*
 go_enter Tryz.func86,Tryz.ntmps86
 go_wp2_with fail
 go_ret;refine⟨?_,qAk _ _⟩;rw[hd.out];simp
 omega
end Go.Proofs.YtelceoecekfamaaGreat
