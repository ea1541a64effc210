/-
Lay Ops Omd Opz Omz Sn Fl Tyr Wityp Wiins Kgd Iar
-/
import Derived.Test.YtconajaecpgjgaaGreatT01
import Derived.Lib.AppendStr
import Derived.Deep.SlicePairs
import Derived.SizedLaws
import Derived.Lib.AppendZeros
set_option linter.unusedSimpArgs false
set_option linter.unusedVariables false
set_option maxRecDepth 100000
set_option maxHeartbeats 1000000
namespace Go.Proofs.YtconajaecpgjgaaGreat
open Go.RowKit
theorem qJ {P:Prop} (h:P:=by
 go_wp2_with fail
 go_ret
 exact⟨rfl,(qAe _ _).alloc (qAf _) _⟩):P:=h
theorem qV {P:Prop} (h:P:=by kernel_rfl):P:=h
theorem q8 {P:Prop} (h:P:=by
 go_wp2_with fail
 go_ret
 exact⟨rfl,qAe _ _⟩):P:=h
theorem zt {P:Prop} (h:P:=by
 go_enter Tryz.func125,Tryz.ntmps125
 exact qJ):P:=h
theorem zz {P:Prop} (h:P:=by
 obtain rfl:k=n:=by omega
 go_wp2_with fail
 go_ret
 refine⟨?_,HB.out⟩
 have e:=HA.out
 rw[qAr qZ] at e
 rw[HW.out,e]
 rfl):P:=h
theorem jY {P:Prop} (h:P:=by
 have e:argN op= -1:=by unfold argN;rw[if_neg (by omega),if_neg (by omega),if_pos (by omega)]
 rw[e]
 clear e
 go_enter Tryz.func156,Tryz.ntmps156
 go_wp2_with fail
 go_ret
 exact⟨rfl,rfl⟩):P:=h
theorem ja {P:Prop} (h:P:=by
 go_ret
 exact⟨by rw[E.out];rfl,Hb2.out⟩):P:=h
def typL:Lay Typ where
 k:=2
 R _ _ cs t:=cs=[.int .i64 t.1,.int .i64 t.2]∧I64 t.1∧I64 t.2
 len:=by rintro S w cs x ⟨rfl,_⟩;rfl
 keep:=by rintro S w w' cs x h _;exact h
 wide:=by rintro S T w cs x h _;exact h
 one:=by rintro S w cs x ⟨rfl,_⟩ u hu;simp at hu;rcases hu with rfl|rfl<;>rfl
def insL:Lay Ins where
 k:=3
 R _ _ cs t:=cs=[.int .i64 t.1,.int .i64 t.2.1,.int .i64 t.2.2]∧I64 t.1∧I64 t.2.1∧I64 t.2.2
 len:=by rintro S w cs x ⟨rfl,_⟩;rfl
 keep:=by rintro S w w' cs x h _;exact h
 wide:=by rintro S T w cs x h _;exact h
 one:=by rintro S w cs x ⟨rfl,_⟩ u hu;simp at hu;rcases hu with rfl|rfl|rfl<;>rfl
def strB (s:ByteArray):List Nat:=s.data.toList.map UInt8.toNat
def strL:Lay (List Nat) where
 k:=1
 R _ _ cs xs:=∃s,cs=[.string s]∧xs=strB s
 len:=by rintro S w cs x ⟨s,rfl,_⟩;rfl
 keep:=by rintro S w w' cs x h _;exact h
 wide:=by rintro S T w cs x h _;exact h
 one:=by rintro S w cs x ⟨s,rfl,_⟩ u hu;simp at hu;subst hu;rfl
abbrev tysL:Lay (List Typ):=slL typL
abbrev codL:Lay (List Ins):=slL insL
def fnL:Lay Fn where
 k:=5
 R S w cs f:=∃v0 v1 v2,cs=[v0,.int .i64 f.ret.1,.int .i64 f.ret.2,v1,v2]∧I64 f.ret.1∧I64 f.ret.2∧tysL.R S w [v0] f.args∧tysL.R S w [v1] f.locs∧codL.R S w [v2] f.code
 len:=by rintro S w cs x ⟨v0,v1,v2,rfl,_⟩;rfl
 keep:=by rintro S w w' cs x ⟨v0,v1,v2,rfl,h1,h2,h3,h4,h5⟩ hk;exact⟨v0,v1,v2,rfl,h1,h2,tysL.keep h3 hk,tysL.keep h4 hk,codL.keep h5 hk⟩
 wide:=by rintro S T w cs x ⟨v0,v1,v2,rfl,h1,h2,h3,h4,h5⟩ hk;exact⟨v0,v1,v2,rfl,h1,h2,tysL.wide h3 hk,tysL.wide h4 hk,codL.wide h5 hk⟩
 one:=by
  rintro S w cs x ⟨v0,v1,v2,rfl,h1,h2,h3,h4,h5⟩ u hu
  simp at hu
  rcases hu with rfl|rfl|rfl|rfl|rfl
  · exact tysL.one h3 _ (by simp)
  · rfl
  · rfl
  · exact tysL.one h4 _ (by simp)
  · exact codL.one h5 _ (by simp)
def impL:Lay Imp where
 k:=3
 R S w cs f:=∃v0,cs=[v0,.int .i64 f.ret.1,.int .i64 f.ret.2]∧I64 f.ret.1∧I64 f.ret.2∧tysL.R S w [v0] f.args
 len:=by rintro S w cs x ⟨v0,rfl,_⟩;rfl
 keep:=by rintro S w w' cs x ⟨v0,rfl,h1,h2,h3⟩ hk;exact⟨v0,rfl,h1,h2,tysL.keep h3 hk⟩
 wide:=by rintro S T w cs x ⟨v0,rfl,h1,h2,h3⟩ hk;exact⟨v0,rfl,h1,h2,tysL.wide h3 hk⟩
 one:=by
  rintro S w cs x ⟨v0,rfl,h1,h2,h3⟩ u hu
  simp at hu
  rcases hu with rfl|rfl|rfl
  · exact tysL.one h3 _ (by simp)
  · rfl
  · rfl
def modL:Lay Mod where
 k:=5
 R S w cs m:=∃v0 v1 v2 v3 v4,cs=[v0,v1,v2,v3,v4]∧(slL tysL).R S w [v0] m.recs∧(slL fnL).R S w [v1] m.funcs∧(slL impL).R S w [v2] m.imps∧(slL numL).R S w [v3] m.ints∧(slL strL).R S w [v4] m.texts
 len:=by rintro S w cs x ⟨v0,v1,v2,v3,v4,rfl,_⟩;rfl
 keep:=by rintro S w w' cs x ⟨v0,v1,v2,v3,v4,rfl,h0,h1,h2,h3,h4⟩ hk;exact⟨v0,v1,v2,v3,v4,rfl,(slL tysL).keep h0 hk,(slL fnL).keep h1 hk,(slL impL).keep h2 hk,(slL numL).keep h3 hk,(slL strL).keep h4 hk⟩
 wide:=by rintro S T w cs x ⟨v0,v1,v2,v3,v4,rfl,h0,h1,h2,h3,h4⟩ hk;exact⟨v0,v1,v2,v3,v4,rfl,(slL tysL).wide h0 hk,(slL fnL).wide h1 hk,(slL impL).wide h2 hk,(slL numL).wide h3 hk,(slL strL).wide h4 hk⟩
 one:=by
  rintro S w cs x ⟨v0,v1,v2,v3,v4,rfl,h0,h1,h2,h3,h4⟩ u hu
  simp at hu
  rcases hu with rfl|rfl|rfl|rfl|rfl
  · exact(slL tysL).one h0 _ (by simp)
  · exact(slL fnL).one h1 _ (by simp)
  · exact(slL impL).one h2 _ (by simp)
  · exact(slL numL).one h3 _ (by simp)
  · exact(slL strL).one h4 _ (by simp)
theorem qB4 (s:ByteArray):(strB s).length=s.size:=by simp[strB]
theorem qDz (s:ByteArray):Lib.strCells s=Bs (strB s):=by simp[Lib.strCells,Bs,strB]
def Puts (ys:List Nat) (w:World) (e:Ending) (w':World):Prop:=∃u,e= .returned u∧w'.ownsRow w.heap.size 5 1 u ys.length (Bs ys)∧Below w.heap.size w w'
theorem qDi (w:World) {ops:Array Oper} {rest:List Oper} {o:Oper} {a:Act} {Q:Exit→Act→World→Prop} (hgd:o.guard=none) (sl x:Operand)
 (ho:o.op= .call {callee:= .builtin .append,args:= #[sl,x],argTypes:= #[52,9]})
 (base:Nat) (v:Value) (n:Nat) (xs:List Nat) (hs:a.eval sl=v) (hown:w.ownsRow base 5 1 v n (Bs xs)) (s:ByteArray) (hx:a.eval x= .string s)
 (hbig:n+(strB s).length≤140737488355328) (hbase:base≤w.heap.size)
 (h:∀v' w',w'.ownsRow base 5 1 v' (n+(strB s).length) (Bs (xs++strB s))→w.grownBy w' v.ownBlock→wpList Tryz.prog ops Q rest (a.put o.dst v') w'):wpList Tryz.prog ops Q (o::rest) a w:=by
 obtain⟨i0,hi0,hz0,hz1,hz2⟩:=info_parts qDE
 rw[qB4] at hbig h
 refine Lib.wpList_append_own_string _ hgd sl x 52 9 ho base 5 i0 Tryz.underlying52 Tryz.underlying9 hi0 hz0 hz1 hz2 v n (Bs xs) hs hown s hx (by simp only[maxLen];omega) hbig hbase ?_
 intro v' w' h1 h2 _
 rw[qDz,←qGz] at h1
 exact h v' w' h1 h2
def C5 (b:Nat) (v0 v1 v2 v3 v4:Value) (w:World):Prop:=w.cell? ⟨b,0,none⟩=some v0∧w.cell? ⟨b,1,none⟩=some v1∧w.cell? ⟨b,2,none⟩=some v2∧w.cell? ⟨b,3,none⟩=some v3∧w.cell? ⟨b,4,none⟩=some v4
theorem C5.below {b B:Nat} {v0 v1 v2 v3 v4:Value} {w w':World} (h:C5 b v0 v1 v2 v3 v4 w) (hb:Below B w w') (hB:b<B):C5 b v0 v1 v2 v3 v4 w':=
 ⟨(hb.cell (p:=⟨b,0,none⟩) hB).trans h.1,(hb.cell (p:=⟨b,1,none⟩) hB).trans h.2.1,(hb.cell (p:=⟨b,2,none⟩) hB).trans h.2.2.1,(hb.cell (p:=⟨b,3,none⟩) hB).trans h.2.2.2.1,(hb.cell (p:=⟨b,4,none⟩) hB).trans h.2.2.2.2⟩
theorem qBT {α:Type} (f:α→List Nat) (xs:List α) (k:Nat) (x:α) (h:xs[k]? =some x):((xs.take (k+1)).map f).flatten=((xs.take k).map f).flatten++f x:=by
 obtain⟨hk,rfl⟩:=qAh.1 h
 rw[qAu hk,List.map_append,List.flatten_append]
 simp
theorem qBt {α:Type} (f:α→List Nat) (xs:List α) (k:Nat):((xs.take k).map f).flatten.length≤(xs.map f).flatten.length:=by
 conv=>rhs;rw[←List.take_append_drop k xs,List.map_append,List.flatten_append]
 rw[List.length_append]
 omega
def fn0:Fn:=⟨[],(1,0),[],[(26,0,0)]⟩
theorem qBQ {w w1:World} {cs:List Value} {m:Mod} (h:modL.R (·<w.heap.size) w cs m) (hb:Below w.heap.size w w1):modL.R (·<w1.heap.size) w1 cs m:=
 modL.wide (modL.keep h fun b hb1=>hb.block b hb1) fun _ hb1=>qAg hb1 hb.size
theorem qCy {S:Nat→Prop} {w:World} {cs:List Value} {m:Mod} (h:modL.R S w cs m):∃A0 A1 A2 A3 A4 n0 n1 n2 n3 n4 c0 c1 c2 c3 c4,cs=[.slice A0 n0 c0,.slice A1 n1 c1,.slice A2 n2 c2,.slice A3 n3 c3,.slice A4 n4 c4]:=by
 obtain⟨_,_,_,_,_,rfl,⟨A0,d0,e0,-⟩,⟨A1,d1,e1,-⟩,⟨A2,d2,e2,-⟩,⟨A3,d3,e3,-⟩,⟨A4,d4,e4,-⟩⟩:=h
 simp only[List.cons.injEq,and_true] at e0 e1 e2 e3 e4
 subst e0 e1 e2 e3 e4
 exact⟨A0,A1,A2,A3,A4,_,_,_,_,_,d0,d1,d2,d3,d4,rfl⟩
def mE:Mod:=⟨[],[],[],[],[]⟩
open Go.ChangeShapes Go.WideShapes Go.ChangeAt Go.RowKit
def Opens {α:Type} (t:TypeId) (L:Lay α):Prop:=∀{H:Type} {enc:TypeId×Value→H} {W:World} {cs:List Value} {x:DataW H×List MemPlace} {fuel:Nat},DataW.trod enc Tryz.prog W 0 (fun _=>true) true fuel t cs=some x→∃y,L.R (·<W.heap.size) W cs y
theorem qCj {α:Type} [Inhabited α] {t e:TypeId} {L:Lay α} (hk:0<L.k) (ht:Tryz.prog.underlying t=some (.slice e)) (hc:Tryz.prog.cellsOf e=L.k) (h:Opens e L):Opens t (slL L):=by
 intro H enc W cs x fuel hf
 rcases Go.Deep.open_slice ht hf with⟨hcs,_⟩|⟨a,l,c,m,n,D,Pl,hcs,_,hl,hm,hmm,_,hx⟩
 · exact⟨[],none,0,hcs,qAf _,by simp[maxLen],Sq.nil _ _ _ _⟩
 · simp only[if_true] at hmm
   have hall:∀i,i<l→∃y cs',(∀j u,cs'[j]? =some u→W.cell? (a.add (i*L.k+j))=some u)∧L.R (·<W.heap.size) W cs' y:=fun i hi=>by
    obtain⟨cs',h1,h2⟩:=hx i (by omega)
    rw[hc] at h1
    obtain⟨_,hlen,hcell⟩:=World.cells?_some h1
    obtain⟨y,hy⟩:=h h2
    refine⟨y,cs',fun j u hu=> ?_,hy⟩
    have hj:j<cs'.length:=(qAh.1 hu).1
    have:=hcell j (by omega)
    rw[qEN] at this
    rw[this,hu]
   obtain⟨f,hf2⟩:=Go.Deep.choose_lt hall
   refine⟨(List.range l).map f,some a,c,by simpa using hcs,by simpa using hl,hm,fun hpos=>⟨a,rfl,?_,fun j y hj=> ?_⟩⟩
   · simp at hpos
     obtain⟨cs',h1,h2⟩:=hf2 0 hpos
     exact qAF
   · have hjl:j<l:=by
      have:=(qAh.1 hj).1
      simpa using this
     have e:f j=y:=by simpa[hjl] using hj
     obtain⟨cs',h1,h2⟩:=hf2 j hjl
     exact⟨cs',h1,e▸h2⟩
theorem qB0 {n:Int} (h:(Lit.int .i64 n).wf=true):I64 n:=by
 have hmin:IntKind.i64.min= -9223372036854775808:=rfl
 have hmax:IntKind.i64.max=9223372036854775807:=rfl
 simp only[Lit.wf,Bool.and_eq_true,decide_eq_true_eq] at h
 unfold I64
 omega
theorem qEX:Opens 34 numL:=by
 intro H enc W cs x fuel hf
 obtain⟨z,rfl,_,hw⟩:=DataW.trod_int Tryz.underlying34 hf
 have hb:=bounds_u64 hw
 exact⟨z.toNat,by show[Value.int .u64 z]=_;rw[Int.toNat_of_nonneg hb.1],by unfold B64;omega⟩
open Go.ChangeShapes Go.WideShapes Go.ChangeAt Go.RowKit
instance:Inhabited Fn:=⟨⟨[],(0,0),[],[]⟩⟩
instance:Inhabited Imp:=⟨⟨[],(0,0)⟩⟩
theorem qCw:Opens 58 typL:=by
 intro H enc W cs x fuel hf
 obtain⟨xs,k,hk,hxy,hl,hxl,hfl⟩:=DataW.trod_struct Tryz.underlying58 hf
 rw[show Tryz.prog.cellsOf 58=2 by kernel_rfl] at hl
 match xs,hxl,cs,hl with
 |[y0,y1],_,[v0,v1],_=>
  have g0:=hfl 0 _ rfl
  have g1:=hfl 1 _ rfl
  simp[show Tryz.prog.cellsOf 3=1 by kernel_rfl] at g0 g1
  obtain⟨z0,e0,_,w0⟩:=DataW.trod_int Tryz.underlying3 g0
  obtain⟨z1,e1,_,w1⟩:=DataW.trod_int Tryz.underlying3 g1
  simp at e0 e1
  subst e0 e1
  exact⟨(z0,z1),rfl,qB0 w0,qB0 w1⟩
theorem qHT:Opens 65 insL:=by
 intro H enc W cs x fuel hf
 obtain⟨xs,k,hk,hxy,hl,hxl,hfl⟩:=DataW.trod_struct Tryz.underlying65 hf
 rw[show Tryz.prog.cellsOf 65=3 by kernel_rfl] at hl
 match xs,hxl,cs,hl with
 |[y0,y1,y2],_,[v0,v1,v2],_=>
  have g0:=hfl 0 _ rfl
  have g1:=hfl 1 _ rfl
  have g2:=hfl 2 _ rfl
  simp[show Tryz.prog.cellsOf 3=1 by kernel_rfl] at g0 g1 g2
  obtain⟨z0,e0,_,w0⟩:=DataW.trod_int Tryz.underlying3 g0
  obtain⟨z1,e1,_,w1⟩:=DataW.trod_int Tryz.underlying3 g1
  obtain⟨z2,e2,_,w2⟩:=DataW.trod_int Tryz.underlying3 g2
  simp at e0 e1 e2
  subst e0 e1 e2
  exact⟨(z0,z1,z2),rfl,qB0 w0,qB0 w1,qB0 w2⟩
theorem qHO:Opens 56 tysL:=qCj jW Tryz.underlying56 qV qCw
open Go.ChangeShapes Go.WideShapes Go.ChangeAt Go.RowKit
def OpensZ {α:Type} (t:TypeId) (L:Lay α) (Z:α→Prop):Prop:=∀{H:Type} {enc:TypeId×Value→H} {W:World} {cs:List Value} {x:DataW H×List MemPlace} {fuel:Nat},DataW.trod enc Tryz.prog W 0 (fun _=>true) true fuel t cs=some x→
 (∀n∈x.1.weights Tryz.prog t,n≤reachBytes)→∃y,L.R (·<W.heap.size) W cs y∧Z y
def Zl {α:Type} (Z:α→Prop) (xs:List α):Prop:=xs.length≤reachBytes∧∀x∈xs,Z x
theorem qCe {H:Type} {P:Program} {e:TypeId}:∀{ds:List (DataW H)} {d:DataW H},d∈ds→∀n∈d.weights P e,n∈DataW.weightsAll P e ds
 |d0::ds,d,hd,n,hn=>by
  simp only[DataW.weightsAll,List.mem_append]
  rcases List.mem_cons.1 hd with rfl|h
  · exact .inl hn
  · exact .inr (qCe h n hn)
theorem qBL {α:Type} [Inhabited α] {t e:TypeId} {L:Lay α} {Z:α→Prop} (hk:0<L.k) (ht:Tryz.prog.underlying t=some (.slice e)) (hc:Tryz.prog.cellsOf e=L.k) (hby:0<Tryz.prog.bytesOf e) (h:OpensZ e L Z):OpensZ t (slL L) (Zl Z):=by
 intro H enc W cs x fuel hf hwt
 rcases Go.Deep.open_slice ht hf with⟨hcs,_⟩|⟨a,l,c,m,n,D,Pl,hcs,_,hl,hm,hmm,hxx,hx⟩
 · exact⟨[],⟨none,0,hcs,qAf _,by simp[maxLen],Sq.nil _ _ _ _⟩,by simp,by simp⟩
 · simp only[if_true] at hmm
   rw[hxx] at hwt
   simp only[DataW.weights,ht] at hwt
   have hlr:l≤reachBytes:=by
    have h1:=hwt _ (List.mem_cons_self ..)
    simp only[List.length_map,List.length_range] at h1
    have h2:=Nat.mul_le_mul (show l≤l+(m-l) by omega) (show 1≤Tryz.prog.bytesOf e by omega)
    omega
   have hwe:∀i,i<l→∀n∈(D i).weights Tryz.prog e,n≤reachBytes:=fun i hi n hn=>
    hwt n (List.mem_cons_of_mem _ (List.mem_append_left _ (qCe (List.mem_map.2 ⟨i,List.mem_range.2 hi,rfl⟩) n hn)))
   have hall:∀i,i<l→∃y cs',(∀j u,cs'[j]? =some u→W.cell? (a.add (i*L.k+j))=some u)∧L.R (·<W.heap.size) W cs' y∧Z y:=fun i hi=>by
    obtain⟨cs',h1,h2⟩:=hx i (by omega)
    rw[hc] at h1
    obtain⟨_,hlen,hcell⟩:=World.cells?_some h1
    obtain⟨y,hy⟩:=h h2 (hwe i hi)
    refine⟨y,cs',fun j u hu=> ?_,hy⟩
    have hj:j<cs'.length:=(qAh.1 hu).1
    have:=hcell j (by omega)
    rw[qEN] at this
    rw[this,hu]
   obtain⟨f,hf2⟩:=Go.Deep.choose_lt hall
   refine⟨(List.range l).map f,⟨some a,c,by simpa using hcs,by simpa using hl,hm,fun hpos=>⟨a,rfl,?_,fun j y hj=> ?_⟩⟩,by simpa using hlr,fun y hy=> ?_⟩
   · simp at hpos
     obtain⟨cs',h1,h2,_⟩:=hf2 0 hpos
     exact qAF
   · have hjl:j<l:=by
      have:=(qAh.1 hj).1
      simpa using this
     have e:f j=y:=by simpa[hjl] using hj
     obtain⟨cs',h1,h2,_⟩:=hf2 j hjl
     exact⟨cs',h1,e▸h2⟩
   · obtain⟨i,hi,rfl⟩:=List.mem_map.1 hy
     obtain⟨_,_,_,h3⟩:=hf2 i (List.mem_range.1 hi)
     exact h3
theorem OpensZ.of {α:Type} {t:TypeId} {L:Lay α} (h:Opens t L):OpensZ t L (fun _=>True):=fun hf _=>by
 obtain⟨y,hy⟩:=h hf
 exact⟨y,hy,trivial⟩
theorem qBV {H:Type} {P:Program} {t:TypeId} {fs:Array Field} {parts:List (DataW H)} (ht:P.underlying t=some (.struct fs)) (h:∀n∈(DataW.agg parts).weights P t,n≤reachBytes) {i:Nat} {f:Field} {d:DataW H} (hf:fs[i]? =some f) (hd:parts[i]? =some d):∀n∈d.weights P f.type,n≤reachBytes:=by
 intro n hn
 refine h n ?_
 simp only[DataW.weights,ht]
 exact DataW.weights_mem_each (by simpa using⟨f,hf,rfl⟩) hd n hn
open Go.ChangeShapes Go.WideShapes Go.ChangeAt Go.RowKit
theorem qGU:OpensZ 9 strL (fun s=>s.length≤reachBytes):=by
 intro H enc W cs x fuel hf hwt
 obtain⟨s,rfl,hx,_⟩:=DataW.trod_string Tryz.underlying9 hf
 refine⟨strB s,⟨s,rfl,rfl⟩,?_⟩
 have:=hwt s.size (by rw[hx];simp[DataW.weights])
 show(strB s).length≤reachBytes
 rw[qB4]
 exact this
abbrev Zt:List Typ→Prop:=Zl fun _=>True
theorem qCZ:OpensZ 56 tysL Zt:=qBL (by decide) Tryz.underlying56 qV jV (OpensZ.of qCw)
theorem qGa:OpensZ 59 codL (Zl fun _=>True):=qBL (by decide) Tryz.underlying59 qV jV (OpensZ.of qHT)
def Zf (f:Fn):Prop:=Zt f.args∧Zt f.locs∧Zl (fun _=>True) f.code
def Zi (f:Imp):Prop:=Zt f.args
def Zm (m:Mod):Prop:=Zl Zt m.recs∧Zl Zf m.funcs∧Zl Zi m.imps∧Zl (fun _=>True) m.ints∧Zl (fun s=>s.length≤reachBytes) m.texts
theorem qHY:OpensZ 61 fnL Zf:=by
 intro H enc W cs x fuel hf hwt
 obtain⟨xs,k,hk,hxy,hl,hxl,hfl⟩:=DataW.trod_struct Tryz.underlying61 hf
 rw[hxy] at hwt
 have hw:=fun i f d=>qBV (i:=i) (f:=f) (d:=d) Tryz.underlying61 hwt
 rw[show Tryz.prog.cellsOf 61=5 by kernel_rfl] at hl
 match xs,hxl,cs,hl with
 |[y0,y1,y2,y3],_,[v0,v1,v2,v3,v4],_=>
  have g0:=hfl 0 _ rfl
  have g1:=hfl 1 _ rfl
  have g2:=hfl 2 _ rfl
  have g3:=hfl 3 _ rfl
  have w0:=hw 0 _ _ rfl rfl
  have w2:=hw 2 _ _ rfl rfl
  have w3:=hw 3 _ _ rfl rfl
  simp[show Tryz.prog.cellsOf 56=1 by kernel_rfl,show Tryz.prog.cellsOf 58=2 by kernel_rfl,show Tryz.prog.cellsOf 59=1 by kernel_rfl] at g0 g1 g2 g3
  obtain⟨a,ha,za⟩:=qCZ g0 w0
  obtain⟨r,hr,i1,i2⟩:=qCw g1
  obtain⟨l,hl,zl⟩:=qCZ g2 w2
  obtain⟨c,hc,zc⟩:=qGa g3 w3
  simp at hr
  obtain⟨rfl,rfl⟩:=hr
  exact⟨⟨a,r,l,c⟩,⟨v0,v3,v4,rfl,i1,i2,ha,hl,hc⟩,za,zl,zc⟩
theorem qGX:OpensZ 63 impL Zi:=by
 intro H enc W cs x fuel hf hwt
 obtain⟨xs,k,hk,hxy,hl,hxl,hfl⟩:=DataW.trod_struct Tryz.underlying63 hf
 rw[hxy] at hwt
 have hw:=fun i f d=>qBV (i:=i) (f:=f) (d:=d) Tryz.underlying63 hwt
 rw[show Tryz.prog.cellsOf 63=3 by kernel_rfl] at hl
 match xs,hxl,cs,hl with
 |[y0,y1],_,[v0,v1,v2],_=>
  have g0:=hfl 0 _ rfl
  have g1:=hfl 1 _ rfl
  have w0:=hw 0 _ _ rfl rfl
  simp[show Tryz.prog.cellsOf 56=1 by kernel_rfl,show Tryz.prog.cellsOf 58=2 by kernel_rfl] at g0 g1
  obtain⟨a,ha,za⟩:=qCZ g0 w0
  obtain⟨r,hr,i1,i2⟩:=qCw g1
  simp at hr
  obtain⟨rfl,rfl⟩:=hr
  exact⟨⟨a,r⟩,⟨v0,rfl,i1,i2,ha⟩,za⟩
theorem qGW:OpensZ 28 modL Zm:=by
 intro H enc W cs x fuel hf hwt
 obtain⟨xs,k,hk,hxy,hl,hxl,hfl⟩:=DataW.trod_struct Tryz.underlying28 hf
 rw[hxy] at hwt
 have hw:=fun i f d=>qBV (i:=i) (f:=f) (d:=d) Tryz.underlying28 hwt
 rw[show Tryz.prog.cellsOf 28=5 by kernel_rfl] at hl
 match xs,hxl,cs,hl with
 |[y0,y1,y2,y3,y4],_,[v0,v1,v2,v3,v4],_=>
  have g0:=hfl 0 _ rfl
  have g1:=hfl 1 _ rfl
  have g2:=hfl 2 _ rfl
  have g3:=hfl 3 _ rfl
  have g4:=hfl 4 _ rfl
  have w0:=hw 0 _ _ rfl rfl
  have w1:=hw 1 _ _ rfl rfl
  have w2:=hw 2 _ _ rfl rfl
  have w3:=hw 3 _ _ rfl rfl
  have w4:=hw 4 _ _ rfl rfl
  simp[show Tryz.prog.cellsOf 22=1 by kernel_rfl,show Tryz.prog.cellsOf 23=1 by kernel_rfl,show Tryz.prog.cellsOf 24=1 by kernel_rfl,show Tryz.prog.cellsOf 25=1 by kernel_rfl,show Tryz.prog.cellsOf 26=1 by kernel_rfl] at g0 g1 g2 g3 g4
  obtain⟨r,hr,zr⟩:=qBL (L:=tysL) (by decide) Tryz.underlying22 qV jV qCZ g0 w0
  obtain⟨f,hf,zf⟩:=qBL (L:=fnL) (by decide) Tryz.underlying23 qV jV qHY g1 w1
  obtain⟨i,hi,zi⟩:=qBL (L:=impL) (by decide) Tryz.underlying24 qV jV qGX g2 w2
  obtain⟨n,hn,zn⟩:=qBL (L:=numL) (by decide) Tryz.underlying25 qV jV (OpensZ.of qEX) g3 w3
  obtain⟨s,hs,zs⟩:=qBL (L:=strL) (by decide) Tryz.underlying26 qV jV qGU g4 w4
  exact⟨⟨r,f,i,n,s⟩,⟨v0,v1,v2,v3,v4,rfl,hr,hf,hi,hn,hs⟩,zr,zf,zi,zn,zs⟩
theorem open_modZ {H:Type} {enc:TypeId×Value→H} {W:World} {v:Value} {d:DataW H} {p:List MemPlace} (h:DataW.Trod enc Tryz.prog W 0 (fun _=>true) true 28 v d p) (hw:∀n∈d.weights Tryz.prog 28,n≤reachBytes):
 ∃cs m,v=vAgg cs∧modL.R (·<W.heap.size) W cs m∧Zm m:=by
 obtain⟨fuel,hf⟩:=h
 obtain⟨m,hm,hz⟩:=qGW hf hw
 have hl:=modL.len hm
 have hv:v= .agg v.cells:=by
  cases v<;>first|rfl|exact absurd hl (by simp[Value.cells,modL])
 refine⟨v.cells.toList,m,?_,hm,hz⟩
 rw[vAgg,Array.toArray_toList]
 exact hv
def namedB (m:Mod) (f:Fn) (i:Ins):Bool:=
 if i.1=0 then decide (i.2.1<(m.ints.length:Int))
 else if i.1=1 then decide (i.2.1<(m.texts.length:Int))
 else if i.1=3∨i.1=4 then decide (i.2.1<(f.args.length:Int)+(f.locs.length:Int))
 else if i.1=23∨i.1=24 then decide (i.2.1<(f.code.length:Int))
 else if i.1=25 then decide (i.2.1<(m.funcs.length:Int))
 else if i.1=27 then decide (i.2.1<(m.imps.length:Int))
 else if i.1=28 then decide (i.2.1<(m.recs.length:Int))
 else if i.1=29∨i.1=30 then (match m.recs[i.2.1.toNat]? with|some r=>decide (i.2.2<(r.length:Int))|none=>false)
 else true
def hanB (t:Typ):Bool:=decide (t.1=5)
def hostB (t:Typ):Bool:=decide (t.1=1∨t.1=5)
def badFn (m:Mod) (f:Fn):Bool:=f.locs.any hanB || f.code.any fun i=> !namedB m f i
def badImp (i:Imp):Bool:=i.args.any (fun t=> !hostB t) || !hostB i.ret
def badM (m:Mod):Bool:=m.funcs.any (badFn m) || m.imps.any badImp
def checkN (m:Mod):Int:=if fitB m=false then 2 else if badM m=true then 1 else 0
def mainB (m:Mod):Bool:=decide (checkN m=0) && (match m.funcs with|f::_=>decide (f.args.length=0) && decide (f.ret.1=1)|[]=>false)
theorem qCb {m:Mod} (h:fitB m=false):checkN m=2:=by simp[checkN,h]
theorem qEI {m:Mod} (h:fitB m=true) (hb:badM m=true):checkN m=1:=by simp[checkN,h,hb]
theorem qHz {m:Mod} (h:fitB m=true) (hb:badM m=false):checkN m=0:=by simp[checkN,h,hb]
theorem qCO {m:Mod} (h:checkN m≠0):mainB m=false:=by simp[mainB,h]
theorem qEb {m:Mod} {f:Fn} {fs:List Fn} (h:checkN m=0) (hf:m.funcs=f::fs):mainB m=(decide (f.args.length=0) && decide (f.ret.1=1)):=by simp[mainB,h,hf]
theorem qBI {m:Mod} (h:checkN m=0):fitB m=true:=by
 cases hf:fitB m
 · rw[qCb hf] at h;cases h
 · rfl
theorem qDU {m:Mod} {f:Fn} (hf:f∈m.funcs) (h:badFn m f=true):badM m=true:=by
 rw[badM,Bool.or_eq_true]
 exact .inl (List.any_eq_true.2 ⟨f,hf,h⟩)
theorem qGy {m:Mod} {f:Imp} (hf:f∈m.imps) (h:badImp f=true):badM m=true:=by
 rw[badM,Bool.or_eq_true]
 exact .inr (List.any_eq_true.2 ⟨f,hf,h⟩)
theorem bad_loc {m:Mod} {f:Fn} {t:Typ} (ht:t∈f.locs) (h:hanB t=true):badFn m f=true:=by
 rw[badFn,Bool.or_eq_true]
 exact .inl (List.any_eq_true.2 ⟨t,ht,h⟩)
theorem qF5 {m:Mod} {f:Fn} {t:Ins} (ht:t∈f.code) (h:namedB m f t=false):badFn m f=true:=by
 rw[badFn,Bool.or_eq_true]
 exact .inr (List.any_eq_true.2 ⟨t,ht,by rw[h];rfl⟩)
theorem qCp {α:Type} {g:α→Bool} {xs:List α} {k:Nat} {x:α} (h:(xs.take k).any g=false) (hx:xs[k]? =some x) (hg:g x=false):(xs.take (k+1)).any g=false:=by
 obtain⟨hk,rfl⟩:=qAh.1 hx
 rw[qAu hk,List.any_append,h]
 simp[hg]
theorem qBx {α:Type} {g:α→Bool} {xs:List α} {x:α} (hx:x∈xs) (hg:g x=true):xs.any g=true:=List.any_eq_true.2 ⟨x,hx,hg⟩
theorem qCq {α:Type} {g:α→Bool} {xs:List α} {n:Nat} (h:(xs.take n).any g=false) (hl:xs.length=n):xs.any g=false:=by
 rwa [qAr (by omega)] at h
theorem dge (a b:Int):decide (b≤a)= !decide (a<b):=by rw[Bool.eq_iff_iff];simp
def subT (a b:Typ):Bool:=subB a.1 a.2 b.1 b.2
def belowT:List Typ→List Typ→Bool
 |[],[]=>true
 |a::xs,b::ys=>subT a b && belowT xs ys
 |_,_=>false
def locB (f:Fn) (n:Int):Typ:=if n<0 then (8,0) else ((f.args++f.locs)[n.toNat]?).getD (8,0)
def fldB (m:Mod) (a b:Int):Typ:=(((m.recs[a.toNat]?).getD [])[b.toNat]?).getD (0,0)
def ruleB (m:Mod) (f:Fn) (i:Ins) (s:List Typ):Option (List Typ×List Typ):=
 if i.1=0 then some ([],[(1,0)])
 else if i.1=1 then some ([],[(2,0)])
 else if i.1=2 then some ([],[(6,0)])
 else if i.1=3 then some ([],[locB f i.2.1])
 else if i.1=4 then some ([locB f i.2.1],[])
 else if i.1=5 then some ([(8,0)],[])
 else if i.1=6 then (match s.reverse with|x::_=>some ([x],[x,x])|_=>none)
 else if i.1=7 then (match s.reverse with|x::y::_=>some ([y,x],[x,y])|_=>none)
 else if i.1=22 then some ([(1,0),(1,0)],[(1,0),(1,0)])
 else if i.1=23 then some ([],[])
 else if i.1=24 then some ([(1,0)],[])
 else if i.1=25 then (match m.funcs[i.2.1.toNat]? with|some g=>some (g.args,[g.ret])|none=>none)
 else if i.1=26 then some ([f.ret],[])
 else if i.1=27 then (match m.imps[i.2.1.toNat]? with|some g=>some (g.args,[g.ret])|none=>none)
 else if i.1=28 then (match m.recs[i.2.1.toNat]? with|some r=>some (r,[(4,i.2.1)])|none=>none)
 else if i.1=29 then some ([(4,i.2.1)],[fldB m i.2.1 i.2.2])
 else if i.1=30 then some ([(4,i.2.1),fldB m i.2.1 i.2.2],[])
 else if i.1=31 then some ([(1,0)],[(3,0)])
 else if i.1=32 then some ([(3,0),(1,0)],[(1,0)])
 else if i.1=33 then some ([(3,0),(1,0),(1,0)],[])
 else if i.1=34 then some ([(3,0)],[(1,0)])
 else if i.1=35 then some ([(1,0)],[(2,0)])
 else if i.1=36 then some ([(2,0),(1,0)],[(1,0)])
 else if i.1=37 then some ([(2,0),(1,0),(1,0)],[])
 else if i.1=38 then some ([(2,0)],[(1,0)])
 else if i.1=39 then some ([(7,0)],[(1,0)])
 else if i.1=40 then some ([(7,0),(7,0)],[(1,0)])
 else if i.1=41 then (match s.reverse with|x::_=>if x.1=5 then some ([x],[]) else none|_=>none)
 else some ([(1,0),(1,0)],[(1,0)])
def movB (s ins outs:List Typ):Option (List Typ):=
 if ins.length≤s.length∧s.length-ins.length+outs.length≤8∧belowT (s.drop (s.length-ins.length)) ins=true then some (s.take (s.length-ins.length)++outs) else none
def nextB (f:Fn) (i:Ins) (pc:Nat):Option (List Int):=
 if i.1=26 then some [] else if i.1=23 then some [i.2.1] else if f.code.length≤pc+1 then none else if i.1=24 then some [(pc:Int)+1,i.2.1] else some [(pc:Int)+1]
def insB8 (m:Mod) (f:Fn) (i:Ins) (pc:Nat) (s:List Typ):Int×List Typ×List Int:=
 match ruleB m f i s with
 |none=>(4,[],[])
 |some (ins,outs)=>match movB s ins outs with
  |none=>(4,[],[])
  |some t=>match nextB f i pc with
   |none=>(1,[],[])
   |some l=>(0,t,l)
def flowB (m:Mod) (f pc:Int) (s:List Typ):Int×List Typ×List Int:=
 if checkN m≠0∨f<0∨pc<0 then (1,[],[])
 else match m.funcs[f.toNat]? with
  |none=>(1,[],[])
  |some fn=>match fn.code[pc.toNat]? with
   |none=>(1,[],[])
   |some i=>insB8 m fn i pc.toNat s
theorem qGv {a b:List Typ} (h:belowT a b=true):a.length=b.length:=by
 induction a generalizing b with
 |nil=>cases b<;>simp[belowT] at h⊢
 |cons x a ih=>
  cases b with
  |nil=>simp[belowT] at h
  |cons y b=>simp only[belowT,Bool.and_eq_true] at h;simp[ih h.2]
theorem qGw {a b c d:List Typ} (h1:belowT a b=true) (h2:belowT c d=true):belowT (a++c) (b++d)=true:=by
 induction a generalizing b with
 |nil=>cases b<;>simp[belowT] at h1 ⊢;exact h2
 |cons x a ih=>
  cases b with
  |nil=>simp[belowT] at h1
  |cons y b=>
   simp only[belowT,Bool.and_eq_true,List.cons_append] at h1⊢
   exact⟨h1.1,ih h1.2⟩
theorem qDC {xs ys:List Typ} {k:Nat} {x y:Typ} (h:belowT (xs.take k) (ys.take k)=true) (hx:xs[k]? =some x) (hy:ys[k]? =some y) (hs:subT x y=true):belowT (xs.take (k+1)) (ys.take (k+1))=true:=by
 obtain⟨hk,rfl⟩:=qAh.1 hx
 obtain⟨hk2,rfl⟩:=qAh.1 hy
 rw[qAu hk,qAu hk2]
 exact qGw h (by simp[belowT,hs])
theorem qDS {xs ys:List Typ} {k:Nat} {x y:Typ} (hx:xs[k]? =some x) (hy:ys[k]? =some y) (hs:subT x y=false):belowT xs ys=false:=by
 induction xs generalizing ys k with
 |nil=>simp at hx
 |cons a xs ih=>
  cases ys with
  |nil=>rfl
  |cons b ys=>
   cases k with
   |zero=>simp at hx hy;subst hx hy;simp[belowT,hs]
   |succ k=>simp only[belowT,ih (k:=k) (by simpa using hx) (by simpa using hy),Bool.and_false]
theorem qC5 {xs ys:List Typ} (h:xs.length≠ys.length):belowT xs ys=false:=by
 cases hb:belowT xs ys
 · rfl
 · exact absurd (qGv hb) h
def T2:List Typ→List Value
 |[]=>[]
 |t::ts=> .int .i64 t.1:: .int .i64 t.2::T2 ts
theorem T2_app (ts us:List Typ):T2 (ts++us)=T2 ts++T2 us:=by
 induction ts with
 |nil=>rfl
 |cons t ts ih=>simp[T2,ih]
theorem qDW (ts:List Typ):(T2 ts).length=ts.length*2:=by
 induction ts with
 |nil=>rfl
 |cons t ts ih=>simp[T2,ih];omega
theorem qFL {ts:List Typ} {j:Nat} {t:Typ} (h:ts[j]? =some t):(T2 ts)[j*2]? =some (.int .i64 t.1):=by
 induction ts generalizing j with
 |nil=>simp at h
 |cons u ts ih=>
  cases j with
  |zero=>simp at h;subst h;simp[T2]
  |succ j=>rw[show(j+1)*2=j*2+1+1 by omega];simp[T2];exact ih (by simpa using h)
theorem qFK {ts:List Typ} {j:Nat} {t:Typ} (h:ts[j]? =some t):(T2 ts)[j*2+1]? =some (.int .i64 t.2):=by
 induction ts generalizing j with
 |nil=>simp at h
 |cons u ts ih=>
  cases j with
  |zero=>simp at h;subst h;simp[T2]
  |succ j=>rw[show(j+1)*2+1=j*2+1+1+1 by omega];simp[T2];exact ih (by simpa using h)
theorem T2_one (ts:List Typ):∀u∈T2 ts,u.oneCell'=true:=by
 induction ts with
 |nil=>simp[T2]
 |cons t ts ih=>
  intro u hu
  simp only[T2,List.mem_cons] at hu
  rcases hu with rfl|rfl|hu
  · rfl
  · rfl
  · exact ih u hu
def A64 (ts:List Typ):Prop:=∀t∈ts,I64 t.1∧I64 t.2
theorem A64.app {ts us:List Typ} (h:A64 ts) (h':A64 us):A64 (ts++us):=fun t ht=>by
 rcases List.mem_append.1 ht with h1|h1
 · exact h t h1
 · exact h' t h1
theorem A64.take {ts:List Typ} (h:A64 ts) (k:Nat):A64 (ts.take k):=fun t ht=>h t (List.mem_of_mem_take ht)
theorem A64.drop {ts:List Typ} (h:A64 ts) (k:Nat):A64 (ts.drop k):=fun t ht=>h t (List.mem_of_mem_drop ht)
theorem A64.nil:A64 []:=fun t ht=>by simp at ht
theorem A64.one {t:Typ} (h:I64 t.1) (h':I64 t.2):A64 [t]:=fun u hu=>by simp at hu;subst hu;exact⟨h,h'⟩
theorem Sq.a64 {S:Nat→Prop} {w:World} {A:Option Addr} {ts:List Typ} (h:Sq typL S w A ts):A64 ts:=fun t ht=>by
 obtain⟨j,hj⟩:=qA8.1 ht
 obtain⟨a,cs,-,-,-,hr⟩:=h.at hj
 exact hr.2
theorem Sq.take {α:Type} {L:Lay α} {S:Nat→Prop} {w:World} {A:Option Addr} {xs:List α} (h:Sq L S w A xs) (k:Nat):Sq L S w A (xs.take k):=fun hn=>by
 have hl:(xs.take k).length≤xs.length:=by simp;omega
 obtain⟨a,e,hs,hc⟩:=h (by omega)
 refine⟨a,e,hs,fun j x hx=>hc j x ?_⟩
 have hj:j<k:=by
  have:=(qAh.1 hx).1
  simp at this
  omega
 rwa [List.getElem?_take_of_lt hj] at hx
theorem Sq.drop {α:Type} {L:Lay α} {S:Nat→Prop} {w:World} {A:Option Addr} {xs:List α} (h:Sq L S w A xs) (k:Nat):Sq L S w (A.map (·.add (k*L.k))) (xs.drop k):=fun hn=>by
 have hl:(xs.drop k).length=xs.length-k:=by simp
 obtain⟨a,e,hs,hc⟩:=h (by omega)
 refine⟨a.add (k*L.k),by rw[e];rfl,by rw[qA9];exact hs,fun j x hx=> ?_⟩
 rw[List.getElem?_drop] at hx
 obtain⟨cs,h1,h2⟩:=hc (k+j) x hx
 refine⟨cs,fun i u hu=> ?_,h2⟩
 rw[qEN,←h1 i u hu,Nat.add_mul,Nat.add_assoc]
theorem qC7 {w:World} {base n:Nat} {v:Value} {ts:List Typ} (h:w.ownsRow base 58 2 v n (T2 ts)) (ha:A64 ts):
 ∃A c,v= .slice A n c∧n=ts.length∧n≤c∧c≤maxLen∧Sq typL (fun b=>base≤b∧b<w.heap.size) w A ts:=by
 have hn:n=ts.length:=by have:=h.1;rw[qDW] at this;omega
 rcases h.2 with⟨rfl,h0⟩|⟨g,cap,cur,rfl,hb,hg,hnc,hcm,_,_⟩
 · refine⟨none,0,by rw[h0],hn,by omega,by simp[maxLen],fun hpos=>absurd hpos (by omega)⟩
 · refine⟨some ⟨g,0,none⟩,cap,rfl,hn,hnc,hcm,fun _=>⟨⟨g,0,none⟩,rfl,⟨hb,(Array.getElem?_eq_some_iff.1 hg).1⟩,fun j t hj=>⟨_,fun i u hu=> ?_,rfl,ha t (qAk hj)⟩⟩⟩
   match i,hu with
   |0,hu=>simp at hu;subst hu;exact h.cells rfl (j*2) _ (qFL hj)
   |1,hu=>simp at hu;subst hu;exact h.cells rfl (j*2+1) _ (qFK hj)
   |i+2,hu=>simp at hu
theorem qB2 (w:World):(w.alloc (.cells #[] 58)).ownsRow w.heap.size 58 2 (.slice (some ⟨w.heap.size,0,none⟩) 0 0) 0 (T2 []):=
 World.ownsRow_made w #[] 0 (qAf _) (by simp[maxLen]) (by simp)
theorem qIU {S:Nat→Prop} {w:World} {a:Addr} {ts:List Typ} (h:Sq typL S w (some a) ts):∀j u,(T2 ts)[j]? =some u→w.cell? (a.add j)=some u:=fun j u hu=>by
 have hj:=(qAh.1 hu).1
 rw[qDW] at hj
 obtain⟨a',e,-,hc⟩:=h (by omega)
 injection e with e
 subst e
 obtain⟨t,ht⟩:∃t,ts[j / 2]? =some t:=⟨ts[j / 2]'(by omega),qAa _⟩
 obtain⟨cs,h1,rfl,-⟩:=hc _ t ht
 rcases Nat.mod_two_eq_zero_or_one j with e|e
 · have ej:j=j / 2*2:=by omega
   have k0:=h1 0 _ rfl
   rw[ej,qFL ht] at hu
   injection hu with hu
   subst hu
   rw[show j / 2*typL.k+0=j by show j / 2*2+0=j;omega] at k0
   exact k0
 · have ej:j=j / 2*2+1:=by omega
   have k0:=h1 1 _ rfl
   rw[ej,qFK ht] at hu
   injection hu with hu
   subst hu
   rw[show j / 2*typL.k+1=j by show j / 2*2+1=j;omega] at k0
   exact k0
theorem qFQ:(Tryz.prog.info? 58).map (fun i=>(i.zero,i.size,i.bytes))=some (some (.agg #[.int .i64 0,.int .i64 0]),2,16):=by kernel_rfl
theorem qCg (w:World) (base ty:Nat) (v:Value) (n:Nat) (xs:List Typ) (hown:w.ownsRow base 58 2 v n (T2 xs)) (A:Option Addr) (m c:Nat) (ys:List Typ) (hm:ys.length=m)
 (S:Nat→Prop) (hy:Sq typL S w A ys) (hbig:n+m≤1000000000) (hbase:base≤w.heap.size):
 ∃v' w',(Builtin.append_ #[56,56] ty #[v,.slice A m c]).run Tryz.prog w= .ok v' w'∧w'.ownsRow base 58 2 v' (n+m) (T2 (xs++ys))∧w.grownBy w' v.ownBlock∧
  (v'.ownBlock=v.ownBlock∨v'.ownBlock=some w.heap.size):=by
 obtain⟨i0,hi0,hz0,hz1,hz2⟩:=info_parts qFQ
 rw[T2_app]
 rcases A with _|a
 · have h0:m=0:=by
    rcases Nat.eq_zero_or_pos m with h|h
    · exact h
    · obtain⟨a,h,_⟩:=hy (by omega)
      cases h
   subst h0
   obtain rfl:ys=[]:=qA1 hm
   refine⟨v,w,?_,by simpa[T2] using hown,⟨rfl,rfl,rfl,qAf _,fun _ _ _=>rfl⟩,.inl rfl⟩
   have ht:=run_underlying (P:=Tryz.prog) (w:=w) Tryz.underlying56
   exact jN
 · obtain⟨v',w',hrun,h2,h3,_,h5⟩:=run_append_own_at (P:=Tryz.prog) w base 56 ty 58 i0 (.agg #[.int .i64 0,.int .i64 0]) 2 16 Tryz.underlying56 hi0 hz0 hz1 hz2 rfl (by omega) v n (T2 xs) hown a m c (T2 ys) (by rw[qDW];omega) (qIU hy) (T2_one ys)
    (by simp only[maxLen];omega) (by omega) hbase
   exact⟨v',w',hrun,h2,h3,h5⟩
theorem qBb (w:World) {ops:Array Oper} {rest:List Oper} {o:Oper} {a:Act} {Q:Exit→Act→World→Prop} (hgd:o.guard=none) (s x:Operand)
 (ho:o.op= .call {callee:= .builtin .append,args:= #[s,x],argTypes:= #[56,56]})
 (base:Nat) (v:Value) (n:Nat) (xs:List Typ) (hs:a.eval s=v) (hown:w.ownsRow base 58 2 v n (T2 xs)) (A:Option Addr) (m c:Nat) (ys:List Typ) (hx:a.eval x= .slice A m c) (hm:ys.length=m)
 (S:Nat→Prop) (hy:Sq typL S w A ys) (hbig:n+m≤1000000000) (hbase:base≤w.heap.size)
 (h:∀v' w',w'.ownsRow base 58 2 v' (n+m) (T2 (xs++ys))→w.grownBy w' v.ownBlock→(v'.ownBlock=v.ownBlock∨v'.ownBlock=some w.heap.size)→wpList Tryz.prog ops Q rest (a.put o.dst v') w'):
 wpList Tryz.prog ops Q (o::rest) a w:=by
 refine wpList_plain hgd fun _ hK=> ?_
 obtain⟨v',w',hrun,h2,h3,h4⟩:=qCg w base o.type v n xs hown A m c ys hm S hy hbig hbase
 unfold Oper.wp execOp
 simp only[ho,resolve,invoke,builtin,Sem.run_bind,Sem.run_pure,Result.andThen_ok,List.map_toArray,List.map_cons,List.map_nil,hs,hx,hrun]
 exact hK _ _ (h v' w' h2 h3 h4)
theorem qBs (w:World) {ops:Array Oper} {o:Oper} {a:Act} {K:Act→World→Prop} {Q:Exit→Act→World→Prop} {E:Prop} (hgd:o.guard=none) (s x:Operand)
 (ho:o.op= .call {callee:= .builtin .append,args:= #[s,x],argTypes:= #[56,56]})
 (base:Nat) (v:Value) (n:Nat) (xs:List Typ) (hs:a.eval s=v) (hown:w.ownsRow base 58 2 v n (T2 xs)) (A:Option Addr) (m c:Nat) (ys:List Typ) (hx:a.eval x= .slice A m c) (hm:ys.length=m)
 (S:Nat→Prop) (hy:Sq typL S w A ys) (hbig:n+m≤1000000000) (hbase:base≤w.heap.size)
 (h:∀v' w',w'.ownsRow base 58 2 v' (n+m) (T2 (xs++ys))→w.grownBy w' v.ownBlock→(v'.ownBlock=v.ownBlock∨v'.ownBlock=some w.heap.size)→K (a.put o.dst v') w'):
 if Region.wanted o (yielded ops a.tmps)=true then Oper.wp Tryz.prog o a w K Q else E:=by
 have hw:Region.wanted o (yielded ops a.tmps)=true:=by simp[Region.wanted,hgd]
 rw[if_pos hw]
 obtain⟨v',w',hrun,h2,h3,h4⟩:=qCg w base o.type v n xs hown A m c ys hm S hy hbig hbase
 unfold Oper.wp execOp
 simp only[ho,resolve,invoke,builtin,Sem.run_bind,Sem.run_pure,Result.andThen_ok,List.map_toArray,List.map_cons,List.map_nil,hs,hx,hrun]
 exact h v' w' h2 h3 h4
theorem qEO (w:World) {ops:Array Oper} {rest:List Oper} {o:Oper} {a:Act} {Q:Exit→Act→World→Prop} (hgd:o.guard=none) (s x:Operand)
 (ho:o.op= .call {callee:= .builtin .append,args:= #[s,x],argTypes:= #[56,3]})
 (n:Nat) (h0:0<n) (hn:n≤1000000000) (hs:a.eval s= .slice none 0 0) (hx:a.eval x= .int .i64 (n:Nat))
 (h:∀G w',n≤G→G≤maxLen→w'.ownsRow w.heap.size 58 2 (.slice (some ⟨w.heap.size,0,none⟩) 0 G) 0 (T2 [])→Below w.heap.size w w'→wpList Tryz.prog ops Q rest (a.put o.dst (.slice (some ⟨w.heap.size,0,none⟩) n G)) w'):
 wpList Tryz.prog ops Q (o::rest) a w:=by
 obtain⟨i0,hi0,hz0,hz1,hz2⟩:=info_parts qFQ
 refine wpList_plain hgd fun _ hK=> ?_
 have hrun:=Lib.run_append_nil_zeros (P:=Tryz.prog) w 56 3 o.type 58 i0 (.agg #[.int .i64 0,.int .i64 0]) .i64 .i64 Tryz.underlying56 Tryz.underlying3 hi0 hz0 n h0 (by omega) (by omega) (by rw[hz2];omega)
 have hG:=grownCap_ge w n 0 58
 have hG2:=grownCap_le_maxLen w n 0 58 (by unfold maxLen;omega)
 generalize grownCap w n 0 58=G at hrun hG hG2
 unfold Oper.wp execOp
 simp only[ho,resolve,invoke,builtin,Sem.run_bind,Sem.run_pure,Result.andThen_ok,List.map_toArray,List.map_cons,List.map_nil,hs,hx,hrun]
 refine hK _ _ (h G _ hG hG2 ?_ ((qAe _ w).drew.alloc (qAf _) _))
 refine World.ownsRow_made (base:=w.heap.size) (e:=58) (size:=2) w.drew _ G (qAf _) hG2 ?_
 simp[Builtin.zeroCells,Value.cells]
 omega
def Is (l:List Int):List Value:=l.map fun x=>Value.int .i64 x
theorem qIN (l:List Int):(Is l).length=l.length:=by simp[Is]
theorem qJd {l:List Int} {j:Nat} {x:Int} (h:l[j]? =some x):(Is l)[j]? =some (.int .i64 x):=by simp[Is,h]
theorem qF9 (A:Option Addr) (n c:Nat) (xs:List Typ) (lo hi:Int) (g:Typ→Bool) (p7:Addr) (w:World) (hl:xs.length=n) (h:Sq typL (·<w.heap.size) w A xs) (hn2:n≤9223372036854775807) (hlo: -1000≤lo∧lo≤1000) (hhi: -9223372036854775808≤hi∧hi≤1000)
 (hG:∀(w1:World) (cs:List Value) (x:Typ),Below w.heap.size w w1→x∈xs→typL.R (·<w1.heap.size) w1 cs x→Calls Tryz.prog 124 #[vAgg cs,.pointer (some p7)] w1 (Tells (g x) w1)):
 Calls Tryz.prog 127 #[.slice A n c,.int .i64 lo,.int .i64 hi,.func (.func 124) #[] #[.pointer (some p7)]] w (Tells (witB lo hi g xs) w):=by
 have HL:=qAZ hl
 have HS:=qAZ h
 have HP0:=qAZ hG
 have HW:Hid (witB lo hi g xs=(decide (lo≤(n:Int)∧(n:Int)≤hi) && xs.all g)):=by rw[←hl];exact rfl
 clear hl h hG
 obtain⟨wb,hwb⟩:∃wb,witB lo hi g xs=wb:=⟨_,rfl⟩
 rw[hwb] at HW⊢
 clear hwb
 by_cases h1:(n:Int)<lo
 · have e:wb=false:=by rw[HW.out];simp;omega
   rw[e]
   clear HW e
   go_enter Tryz.func127,Tryz.ntmps127
   exact q8
 by_cases h2:hi<(n:Int)
 · have e:wb=false:=by rw[HW.out];simp;omega
   rw[e]
   clear HW e
   go_enter Tryz.func127,Tryz.ntmps127
   exact q8
 replace HW:Hid (wb=xs.all g):=by
  show wb=xs.all g
  rw[HW.out]
  simp
  omega
 go_enter Tryz.func127,Tryz.ntmps127
 go_wp2_with fail
 go_loopw [23] (fun i wr=>∃k:Nat,k≤n∧i= .int .i64 (k:Nat)∧(xs.take k).all g=true∧Below w.heap.size w wr) (fun i _=>n-(intOf i).toNat)
 case atStart=>exact⟨0,qAs _,rfl,by simp,qAe _ _⟩
 case round=>
  obtain⟨k,hk,rfl,hall,hbel⟩:=hrel
  have HA:=qAZ hall
  have HB:=qAZ hbel
  have hs:=hbel.size
  clear hall hbel
  by_cases hlt:k<n
  · skip
    obtain⟨x,hx⟩:∃x,xs[k]? =some x:=⟨xs[k]'qd,qAa _⟩
    have hmem:x∈xs:=qAk hx
    obtain⟨a,cs,rfl,hab,hc,hr⟩:=HS.out.at hx
    have HX:=qAZ hx
    clear hx
    have HR:=qAZ hr
    obtain⟨rfl,-,-⟩:=hr
    have c0:=(HB.out.cell (p:=a.add (k*2)) qE).trans (hc 0 _ rfl)
    have c1:=(HB.out.cell (p:=a.add (k*2+1)) qE).trans (hc 1 _ rfl)
    rw[qAl a (k*2) 1 (by omega)] at c1
    have HP:Hid (∀w1,Below w.heap.size w w1→Calls Tryz.prog 124 #[.agg #[.int .i64 x.1,.int .i64 x.2],.pointer (some p7)] w1 (Tells (g x) w1)):=fun w1 hb=>HP0.out w1 [.int .i64 x.1,.int .i64 x.2] x hb hmem (typL.wide (typL.keep HR.out fun b hb1=>hb.block b hb1) fun b hb1=>qAg hb1 hb.size)
    clear hc
    cases hg:g x
    · rw[hg] at HP
      have e:wb=false:=by
       rw[HW.out,List.all_eq_false]
       exact⟨x,hmem,by rw[hg];simp⟩
      have E:=qAZ e
      clear e hg
      go_wp2_with (first
       |(go_at_call 124
         refine(HP.out _ (HB.out.alloc hs _)).mono ?_
         rintro e w2 ⟨rfl,hb2⟩
         have Hb2:=qAZ ((HB.out.alloc hs _).trans (hb2.mono qf))
         clear hb2))
      exact ja
    · rw[hg] at HP
      have HG:=qAZ hg
      clear hg
      go_wp2_with (first
       |(go_at_call 124
         refine(HP.out _ (HB.out.alloc hs _)).mono ?_
         rintro e w2 ⟨rfl,hb2⟩
         have Hb2:=qAZ ((HB.out.alloc hs _).trans (hb2.mono qf))
         clear hb2))
      exact zE
  · exact zz
theorem qGC (A:Option Addr) (n c:Nat) (xs:List Ins) (lo hi:Int) (g:Ins→Bool) (w:World) (hl:xs.length=n) (h:Sq insL (·<w.heap.size) w A xs) (hn2:n≤9223372036854775807) (hlo: -1000≤lo∧lo≤1000) (hhi: -9223372036854775808≤hi∧hi≤1000)
 (hG:∀(w1:World) (cs:List Value) (x:Ins),Below w.heap.size w w1→x∈xs→insL.R (·<w1.heap.size) w1 cs x→Calls Tryz.prog 131 #[vAgg cs] w1 (Tells (g x) w1)):
 Calls Tryz.prog 130 #[.slice A n c,.int .i64 lo,.int .i64 hi,.func (.func 131) #[] #[]] w (Tells (witB lo hi g xs) w):=by
 have HL:=qAZ hl
 have HS:=qAZ h
 have HP0:=qAZ hG
 have HW:Hid (witB lo hi g xs=(decide (lo≤(n:Int)∧(n:Int)≤hi) && xs.all g)):=by rw[←hl];exact rfl
 clear hl h hG
 obtain⟨wb,hwb⟩:∃wb,witB lo hi g xs=wb:=⟨_,rfl⟩
 rw[hwb] at HW⊢
 clear hwb
 by_cases h1:(n:Int)<lo
 · have e:wb=false:=by rw[HW.out];simp;omega
   rw[e]
   clear HW e
   go_enter Tryz.func130,Tryz.ntmps130
   exact q8
 by_cases h2:hi<(n:Int)
 · have e:wb=false:=by rw[HW.out];simp;omega
   rw[e]
   clear HW e
   go_enter Tryz.func130,Tryz.ntmps130
   exact q8
 replace HW:Hid (wb=xs.all g):=by
  show wb=xs.all g
  rw[HW.out]
  simp
  omega
 go_enter Tryz.func130,Tryz.ntmps130
 go_wp2_with fail
 go_loopw [23] (fun i wr=>∃k:Nat,k≤n∧i= .int .i64 (k:Nat)∧(xs.take k).all g=true∧Below w.heap.size w wr) (fun i _=>n-(intOf i).toNat)
 case atStart=>exact⟨0,qAs _,rfl,by simp,qAe _ _⟩
 case round=>
  obtain⟨k,hk,rfl,hall,hbel⟩:=hrel
  have HA:=qAZ hall
  have HB:=qAZ hbel
  have hs:=hbel.size
  clear hall hbel
  by_cases hlt:k<n
  · skip
    obtain⟨x,hx⟩:∃x,xs[k]? =some x:=⟨xs[k]'qd,qAa _⟩
    have hmem:x∈xs:=qAk hx
    obtain⟨a,cs,rfl,hab,hc,hr⟩:=HS.out.at hx
    have HX:=qAZ hx
    clear hx
    have HR:=qAZ hr
    obtain⟨rfl,-,-,-⟩:=hr
    have c0:=(HB.out.cell (p:=a.add (k*3)) qE).trans (hc 0 _ rfl)
    have c1:=(HB.out.cell (p:=a.add (k*3+1)) qE).trans (hc 1 _ rfl)
    rw[qAl a (k*3) 1 (by omega)] at c1
    have c2:=(HB.out.cell (p:=a.add (k*3+2)) qE).trans (hc 2 _ rfl)
    rw[qAl a (k*3) 2 (by omega)] at c2
    have HP:Hid (∀w1,Below w.heap.size w w1→Calls Tryz.prog 131 #[.agg #[.int .i64 x.1,.int .i64 x.2.1,.int .i64 x.2.2]] w1 (Tells (g x) w1)):=fun w1 hb=>HP0.out w1 [.int .i64 x.1,.int .i64 x.2.1,.int .i64 x.2.2] x hb hmem (insL.wide (insL.keep HR.out fun b hb1=>hb.block b hb1) fun b hb1=>qAg hb1 hb.size)
    clear hc
    cases hg:g x
    · rw[hg] at HP
      have e:wb=false:=by
       rw[HW.out,List.all_eq_false]
       exact⟨x,hmem,by rw[hg];simp⟩
      have E:=qAZ e
      clear e hg
      go_wp2_with (first
       |(go_at_call 131
         refine(HP.out _ (HB.out.alloc hs _)).mono ?_
         rintro e w2 ⟨rfl,hb2⟩
         have Hb2:=qAZ ((HB.out.alloc hs _).trans (hb2.mono qf))
         clear hb2))
      exact ja
    · rw[hg] at HP
      have HG:=qAZ hg
      clear hg
      go_wp2_with (first
       |(go_at_call 131
         refine(HP.out _ (HB.out.alloc hs _)).mono ?_
         rintro e w2 ⟨rfl,hb2⟩
         have Hb2:=qAZ ((HB.out.alloc hs _).trans (hb2.mono qf))
         clear hb2))
      exact zE
  · exact zz
theorem kgood (k n r:Int) (w:World):Calls Tryz.prog 125 #[.agg #[.int .i64 k,.int .i64 n],.int .i64 r] w fun e w'=>e= .returned (.bool (goodB k n r))∧Below w.heap.size w w':=by
 by_cases h1:k=1
 · subst h1
   exact zt
 by_cases h2:k=2
 · subst h2
   exact zt
 by_cases h3:k=3
 · subst h3
   exact zt
 by_cases h7:k=7
 · subst h7
   exact zt
 by_cases h4:k=4
 · subst h4
   by_cases hn:0≤n
   · have e:goodB 4 n r=decide (n<r):=by simp[goodB,hn]
     rw[e]
     clear e
     exact zt
   · have e:goodB 4 n r=false:=by simp[goodB,hn]
     rw[e]
     clear e
     exact zt
 by_cases h5:k=5
 · subst h5
   by_cases hn:0≤n
   · have e:goodB 5 n r=decide (n<4):=by simp[goodB,hn]
     rw[e]
     clear e
     exact zt
   · have e:goodB 5 n r=false:=by simp[goodB,hn]
     rw[e]
     clear e
     exact zt
 have e:goodB k n r=false:=by simp[goodB,h1,h2,h3,h7,h4,h5]
 rw[e]
 clear e
 go_enter Tryz.func125,Tryz.ntmps125
 go_wp2_with fail
 go_ret
 exact⟨rfl,(qAe _ _).alloc (qAf _) _⟩
theorem qDM (op:Int) (w:World):Calls Tryz.prog 156 #[.int .i64 op] w fun e w'=>e= .returned (.int .i64 (argN op))∧w=w':=by
 by_cases hc:op=29∨op=30∨op=0∨op=1∨op=3∨op=4∨op=23∨op=24∨op=25∨op=27∨op=28
 · rcases hc with rfl|rfl|rfl|rfl|rfl|rfl|rfl|rfl|rfl|rfl|rfl
   all_goals
    go_enter Tryz.func156,Tryz.ntmps156
    go_wp2_with fail
    go_ret
    exact⟨rfl,rfl⟩
 · obtain⟨n29,n30,n0,n1,n3,n4,n23,n24,n25,n27,n28⟩:op≠29∧op≠30∧op≠0∧op≠1∧op≠3∧op≠4∧op≠23∧op≠24∧op≠25∧op≠27∧op≠28:=by omega
   clear hc
   by_cases hlo:op<0
   · exact jY
   by_cases hhi:42≤op
   · exact jY
   have e:argN op=0:=by unfold argN;rw[if_neg (by omega),if_neg (by omega),if_neg (by omega)]
   rw[e]
   clear e
   go_enter Tryz.func156,Tryz.ntmps156
   go_wp2_with fail
   go_ret
   exact⟨rfl,rfl⟩
end Go.Proofs.YtconajaecpgjgaaGreat
