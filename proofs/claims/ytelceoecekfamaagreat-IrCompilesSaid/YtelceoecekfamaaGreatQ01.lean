/-
W0 Wds On0 Opn Math Im Iun Pkm Km Nvr Stp Kwo Ow0 Own Kpt Iss Le Wid Nfx Mo Ly
-/
import Derived.Test.YtelceoecekfamaaGreatProg
import Derived.Test.YtelceoecekfamaaGreatRows
import Derived.WalkKit
import Derived.WalkSpells
import Derived.WalkLawsBesides
import Derived.Maps.AppendAt
import Derived.Deep.Draws
import Derived.Lib.Hide
import Derived.OpenShut
import Derived.Laws.BitsAllLaws
import Derived.Laws.Bits64
import Derived.ProofKit
import Derived.ShutString
import Derived.Deep.Slices
import Derived.Deep.RegionLaw
import Init
set_option linter.unusedSimpArgs false
set_option linter.unusedVariables false
set_option maxRecDepth 100000
set_option maxHeartbeats 1000000
namespace Go.Proofs.YtelceoecekfamaaGreat
open Go.RowKit
variable {A:Option Addr}{B B':Nat}{E:Prop}{S T:Nat→Prop}{a b:World}{base:Nat}{c:World}{cs:Array Value}{g i k n:Nat}{op r:Int}{t:TypeId}{ty:Nat}{v:Value}{w w':World}{α:Type}{x:α}{xs:List α}
theorem qAg {p:Prop} (h:p):Hid p:=Lib.hid h
theorem qAh {m:Nat} :n<m→m≤k→n<k:=Nat.lt_of_lt_of_le
theorem qAi (n:Nat):n≤n:=Nat.le_refl n
theorem qAj {α:Type _} {a:α} {l:List α}:l[i]? =some a↔∃h:i<l.length,l[i]=a:=List.getElem?_eq_some_iff
theorem qAk (B:Nat) (w:World):Below B w w:=Below.refl B w
theorem qAl {α:Type _} {l:List α} {a:α} (e:l[i]? =some a):a∈l:=List.mem_of_getElem? e
theorem qAn {α:Type _} {l:List α} (h:l.length≤i):List.take i l=l:=List.take_of_length_le h
theorem qAp {α:Type _} {l:List α} (h:i<l.length):List.take (i+1) l=List.take i l++[l[i]]:=List.take_succ_eq_append_getElem h
theorem qAq (n:Nat):0≤n:=Nat.zero_le n
theorem qAr (w:World) (a:Addr) {u:Value} (h:w.cell? a=some u):a.block<w.heap.size:=World.block_lt_of_cell? w a h
theorem qAv (n:Int):IntKind.i64.wrap n=(n+9223372036854775808)%18446744073709551616-9223372036854775808:=IntKind.wrap_i64 n
theorem qAy {a:Addr} (h:w'.heap[a.block]? =w.heap[a.block]?):w'.cell? a=w.cell? a:=World.cell?_of_block h
theorem qA2 (w:World) (a:Addr) (u:Value) (k:Nat) (h:k≠a.block):(w.setCell a u).heap[k]? =w.heap[k]?:=Below.heap_setCell w a u k h
theorem qA4 {α:Type _} {l:List α}:l.length=0→l=[]:=List.eq_nil_of_length_eq_zero
theorem qA8 {m:Nat} :n≤m→m≤k→n≤k:=Nat.le_trans
theorem qBM {α:Type _} {a:α} {l:List α}:a∈l↔∃i:Nat,l[i]? =some a:=List.mem_iff_getElem?
theorem qBh (w:World) (o:Obj) (k:Nat) (h:k<w.heap.size):(w.alloc o).heap[k]? =w.heap[k]?:=Below.heap_alloc w o k h
theorem qB {P:Prop} (h:P:=by rw[qAz];exact hab):P:=h
theorem qF {P:Prop} (h:P:=by
 refine⟨⟨k+1,by omega,by simp,⟨q++y,?_,?_,?_⟩,Hb2.out.grown HG4.out (by omega) (fun i hi=>(HO2.out.lt i hi).1)⟩,by simp[intOf];omega⟩
 · rw[HF.out,HQ.out,HY.out]
   simp[List.append_assoc]
 · simp[List.length_append]
   omega
 · rw[List.length_append]
   exact HO4.out):P:=h
theorem qK {P:Prop} (h:P:=by simp;omega):P:=h
theorem qM {P:Prop} (h:P:=by
 refine⟨0,qAq _,rfl,⟨_,rfl,?_,?_⟩,HB1.out⟩
 · have:=HN.out
   simp only[lB,List.length_append,HL.out] at this;simp
   omega
 · simpa using HO1.out):P:=h
theorem qO {P:Prop} (h:P:=by rw[HL.out];exact qAi _):P:=h
theorem qR {P:Prop} (h:P:=by have:=hb1.size;simp at this;omega):P:=h
theorem qS {P:Prop} (h:P:=by rw[HL.out];exact hlt):P:=h
theorem qU {P:Prop} (h:P:=by have:=A0.out;rw[hra] at this;exact this):P:=h
theorem qW {P:Prop} (h:P:=by rw[qAz];exact hbb):P:=h
theorem qb {P:Prop} (h:P:=by
 have k0:=(hb.cell (p:=a.add (j*5)) qB).trans (hcl 0 _ rfl);have k1:=(hb.cell (p:=a.add (j*5+1)) qB).trans (hcl 1 _ rfl);have k2:=(hb.cell (p:=a.add (j*5+2)) qB).trans (hcl 2 _ rfl);have k3:=(hb.cell (p:=a.add (j*5+3)) qB).trans (hcl 3 _ rfl);have k4:=(hb.cell (p:=a.add (j*5+4)) qB).trans (hcl 4 _ rfl);rw[qAm a (j*5) 1 (by omega)] at k1;rw[qAm a (j*5) 2 (by omega)] at k2;rw[qAm a (j*5) 3 (by omega)] at k3;rw[qAm a (j*5) 4 (by omega)] at k4;exact⟨k0,k1,k2,k3,k4⟩):P:=h
theorem qc {P:Prop} (h:P:=by simp<;>omega):P:=h
theorem qd {P:Prop} (h:P:=by
 rw[List.getElem?_set] at hy
 by_cases e:k=j
 · subst e
   rw[if_pos rfl,if_pos hk] at hy;injection hy with hy;subst hy;exact⟨A,c,by rw[List.getElem?_set_self (by rw[h.lenr];exact hk)],h1,h2,h3,(h4.keep fun b hb=>hz b hb.2.2).wide fun b hb=>by rw[hsz];exact hb⟩
 · rw[if_neg e] at hy
   obtain⟨A1,c1,q1,q2,q3,q4,q5⟩:=h.stk j y hy;exact⟨A1,c1,by rw[List.getElem?_set_ne e];exact q1,q2,q3,q4,(q5.keep fun b hb=>hz b hb.2.2).wide fun b hb=>by rw[hsz];exact hb⟩):P:=h
theorem qe {P:Prop} (h:P:=by have:=C0.out;rw[hrc] at this;exact this):P:=h
theorem qf {P:Prop} (h:P:=by refine⟨⟨k+1,by omega,by simp,qEO HA.out HX.out HG.out,Hb2.out⟩,by simp[intOf];omega⟩):P:=h
theorem qn {P:Prop} (h:P:=by have:=S1.out;rw[h1] at this;exact this):P:=h
theorem qo {P:Prop} (h:P:=by
 refine⟨?_,h64 n (qAl h)⟩;have hj:=(qAj.1 h).1;have e:L[j]? =some (.int .i64 n):=by
  rw[←hL,nvC,List.getElem?_append_right (by simpa using ‹9≤j›),List.getElem?_append_left (by simpa using hj)];simp only[List.length_cons,List.length_nil,List.getElem?_map];rw[h];rfl
 have h9:j<1000:=by simp[numC] at hj;omega
 simp[nv,e,h9]):P:=h
theorem qp {P:Prop} (h:P:=by refine⟨⟨k+1,by omega,by simp,qCV HA.out HX.out HG.out,Hb2.out⟩,by simp[intOf];omega⟩):P:=h
theorem qr {P:Prop} (h:P:=by decide):P:=h
theorem qu {P:Prop} (h:P:=by
 rw[List.getElem?_append_right hj] at hl';have e0:j-L.length=0:=by
  rcases Nat.eq_zero_or_pos (j-L.length) with h|h
  · exact h
  · rw[List.getElem?_eq_none qK] at hl'
    cases hl'
 rw[e0] at hl';simp at hl';subst hl';obtain rfl:j=k:=by omega
 rw[hf] at hf';injection hf' with hf';subst hf';exact hl):P:=h
theorem qw {P:Prop} (h:P:=by have:=S2.out;rw[h2] at this;exact this):P:=h
theorem qx {P:Prop} (h:P:=by
 have k0:=(hb.cell (p:=b.add (p*3)) qW).trans (hil 0 _ rfl);have k1:=(hb.cell (p:=b.add (p*3+1)) qW).trans (hil 1 _ rfl);have k2:=(hb.cell (p:=b.add (p*3+2)) qW).trans (hil 2 _ rfl);rw[qAm b (p*3) 1 (by omega)] at k1;rw[qAm b (p*3) 2 (by omega)] at k2;exact⟨k0,k1,k2⟩):P:=h
theorem qy {P:Prop} (h:P:=by simpa using h):P:=h
theorem qz {P:Prop} (h:P:=by show Below _ _ _;first|exact(qAo V _).trans (hb4.mono (by simp))|exact(qAo V _).drew.trans (hb4.mono (by simp))):P:=h
theorem q6 {P:Prop} (h:P:=by
 by_cases e:k=p
 · subst e
   rw[List.getElem?_set_self hlk] at hp
   cases hp
 · rw[List.getElem?_set_ne e] at hp
   exact h.out p s hp):P:=h
theorem q9 {P:Prop} (h:P:=by
 rcases hown.2 with⟨rfl,rfl⟩|⟨g,cap,cur,rfl,_,_,hnc,_⟩
 · simp[Builtin.append_,ht,sizeOf,typeInfo,hi0,Builtin.lenOf,Builtin.firstCells]
 · simp[Builtin.append_,ht,sizeOf,typeInfo,hi0,Builtin.lenOf,Builtin.firstCells,hnc,storeCells]):P:=h
theorem zA {P:Prop} (h:P:=by simp only;omega):P:=h
theorem zC {P:Prop} (h:P:=by have:=R1.out;rw[h3] at this;exact this):P:=h
theorem zD {P:Prop} (h:P:=by simp[Op.operands]):P:=h
theorem zI {P:Prop} (h:P:=by
 by_cases e:k=p
 · subst e
   rw[List.getElem?_set_self (by rw[h.lenw,←hll];exact hlk)] at hp
   cases hp
 · rw[List.getElem?_set_ne e] at hp⊢
   exact h.still p hp):P:=h
theorem zQ {P:Prop} (h:P:=by
 refine⟨0,qAq _,rfl,⟨_,rfl,?_,?_⟩,HB1.out⟩
 · have:=HN.out
   rw[qBW,HL.out] at this;simp[pts]
   omega
 · simpa[pts] using HO1.out):P:=h
theorem zW {P:Prop} (h:P:=by
 simp at h;exact⟨k.toNat,n.toNat,by ext<;>simp<;>omega,by omega,by omega⟩):P:=h
theorem zY {P:Prop} (h:P:=by exact .inr ⟨g',cap,cur,e,by have:=HBV.out.size;simp at hb2;omega,rest⟩):P:=h
theorem zZ {P:Prop} (h:P:=by decide +kernel):P:=h
theorem zd {P:Prop} (h:P:=by rw[List.length_set];exact qBk h.wai (hz q (hne q 2 h.zq (by omega)))):P:=h
theorem ze {P:Prop} (h:P:=by rw[qAz];exact ha'b):P:=h
theorem zh {P:Prop} (h:P:=by simp only[maxLen];omega):P:=h
theorem zj {P:Prop} (h:P:=by
 injection h with h;subst h;exact⟨_,_,_,rfl,ht⟩):P:=h
theorem zk {P:Prop} (h:P:=by have:=R2.out;rw[h4] at this;exact this):P:=h
theorem zm {P:Prop} (h:P:=by rw[List.length_set];exact(hz g (hne g 0 h.zg (by omega))).trans h.box):P:=h
theorem zo {P:Prop} (h:P:=by rw[qAz];exact hs):P:=h
theorem zt {P:Prop} (h:P:=by
 have e:(q++vb x.length++x).length=q.length+(vb x.length).length+x.length:=by simp[List.length_append];omega
 rw[e];exact HO4.out):P:=h
theorem zu {P Q:Prop} (q:Q) (h:Q→P:=by
 have HVW:Hid (Below V.heap.size V W):=by show Below _ _ _;rw[hW];exact qAo V _
 have HIW:Hid (Blk W (w.heap.size+2) 52 #[.int .i64 o,.int .i64 ia,.int .i64 ib]):=by show Blk _ _ _ _;rw[hW,←hsV];exact qBc V _ _
 have hsW:W.heap.size=w.heap.size+3:=by rw[hW];simp[hsV]
 have HBW:Hid (Below w.heap.size w W):=HBV.out.trans (HVW.out.mono (by omega));have HFW:Hid (Blk W (w.heap.size+1) 44 #[.slice P0 ua c0,.int .i64 fn.ret.1,.int .i64 fn.ret.2,.slice P1 ul c1,.slice (some b) uc c2]):=qAx HFV.out HVW.out (by omega);have HMW:Hid (C5 w.heap.size (.slice A0 n0 d0) (.slice (some a) n1 d1) (.slice A2 n2 d2) (.slice A3 n3 d3) (.slice A4 n4 d4) W):=(HMU.out.below HUV.out (by omega)).below HVW.out (by omega);intro kz;revert HVW HIW hsW HBW HFW HMW;exact kz):P:=h q
theorem zv {P Q:Prop} (q:Q) (h:Q→P:=by
 obtain⟨x0,x1,x2,x3,x4⟩:=HMW.out;obtain⟨v0,v1,v2,v3,v4⟩:W.cell? ⟨w.heap.size+1,0,none⟩=some (.slice P0 ua c0)∧W.cell? ⟨w.heap.size+1,1,none⟩=some (.int .i64 fn.ret.1)∧W.cell? ⟨w.heap.size+1,2,none⟩=some (.int .i64 fn.ret.2)∧W.cell? ⟨w.heap.size+1,3,none⟩=some (.slice P1 ul c1)∧W.cell? ⟨w.heap.size+1,4,none⟩=some (.slice (some b) uc c2):=⟨HFW.out.cell 0,HFW.out.cell 1,HFW.out.cell 2,HFW.out.cell 3,HFW.out.cell 4⟩;obtain⟨u0,u1,u2⟩:W.cell? ⟨w.heap.size+2,0,none⟩=some (.int .i64 o)∧W.cell? ⟨w.heap.size+2,1,none⟩=some (.int .i64 ia)∧W.cell? ⟨w.heap.size+2,2,none⟩=some (.int .i64 ib):=⟨HIW.out.cell 0,HIW.out.cell 1,HIW.out.cell 2⟩;intro kz;revert x0 x1 x2 x3 x4 v0 v1 v2 v3 v4 u0 u1 u2;exact kz):P:=h q
theorem zw {P Q:Prop} (q:Q) (h:Q→P:=by
 have k0:=(hb.cell (p:=a.add (j*5)) qB).trans (hcl 0 _ rfl);have k1:=(hb.cell (p:=a.add (j*5+1)) qB).trans (hcl 1 _ rfl);have k2:=(hb.cell (p:=a.add (j*5+2)) qB).trans (hcl 2 _ rfl);have k3:=(hb.cell (p:=a.add (j*5+3)) qB).trans (hcl 3 _ rfl);have k4:=(hb.cell (p:=a.add (j*5+4)) qB).trans (hcl 4 _ rfl);have i0:=(hb.cell (p:=b.add (p*3)) qW).trans (hil 0 _ rfl);have i1:=(hb.cell (p:=b.add (p*3+1)) qW).trans (hil 1 _ rfl);have i2:=(hb.cell (p:=b.add (p*3+2)) qW).trans (hil 2 _ rfl);intro kz;revert k0 k1 k2 k3 k4 i0 i1 i2;exact kz):P:=h q
theorem zx {P Q:Prop} (q:Q) (h:Q→P:=by
 have HX64:Hid (x<B64):=by show x<B64;unfold B64;omega
 have HY64:Hid (y<B64):=by show y<B64;unfold B64;omega
 have HL1:Hid (1+(vb x).length≤140737488355328):=by show 1+(vb x).length≤140737488355328;have:=qFQ x hx;omega
 have HL2:Hid (1+(vb x).length+(vb y).length≤140737488355328):=by show 1+(vb x).length+(vb y).length≤140737488355328;have:=qFQ x hx;have:=qFQ y hy;omega
 intro kz;revert HX64 HY64 HL1 HL2;exact kz):P:=h q
theorem zz {P Q:Prop} (q:Q) (h:Q→P:=by
 have k0:=(hb.cell (p:=a.add (j*5)) qB).trans (hcl 0 _ rfl);have k1:=(hb.cell (p:=a.add (j*5+1)) qB).trans (hcl 1 _ rfl);have k2:=(hb.cell (p:=a.add (j*5+2)) qB).trans (hcl 2 _ rfl);have k3:=(hb.cell (p:=a.add (j*5+3)) qB).trans (hcl 3 _ rfl);have k4:=(hb.cell (p:=a.add (j*5+4)) qB).trans (hcl 4 _ rfl);intro kz;revert k0 k1 k2 k3 k4;exact kz):P:=h q
theorem z7 {P Q:Prop} (q:Q) (h:Q→P:=by
 obtain⟨x,hx⟩:∃x,xs[k]? =some x:=⟨xs[k]'qS,List.getElem?_eq_getElem _⟩;have hmem:x∈xs:=qAl hx;intro kz;revert x hx hmem;exact kz):P:=h q
theorem z9 {P Q:Prop} (q:Q) (h:Q→P:=by
 obtain⟨n0,h0⟩:∃n,x.recs.length=n:=⟨_,rfl⟩;obtain⟨n1,h1⟩:∃n,x.funcs.length=n:=⟨_,rfl⟩;obtain⟨n2,h2⟩:∃n,x.imps.length=n:=⟨_,rfl⟩;intro kz;revert n0 h0 n1 h1 n2 h2;exact kz):P:=h q
theorem jA {P Q:Prop} (q:Q) (h:Q→P:=by
 have HUV:Hid (Below U.heap.size U V):=by show Below _ _ _;rw[hV];exact qAo U _
 have HFV:Hid (Blk V (w.heap.size+1) 44 #[.slice P0 ua c0,.int .i64 fn.ret.1,.int .i64 fn.ret.2,.slice P1 ul c1,.slice (some b) uc c2]):=by show Blk _ _ _ _;rw[hV,←hsU];exact qBc U _ _
 have hsV:V.heap.size=w.heap.size+2:=by rw[hV];simp[hsU]
 have HBV:Hid (Below w.heap.size w V):=HBU.out.trans (HUV.out.mono (by omega));intro kz;revert HUV HFV hsV HBV;exact kz):P:=h q
theorem jC {P Q:Prop} (q:Q) (h:Q→P:=by
 have HN:=qAg hn;have HM:=qAg hm;have HNB:Hid (∀b,k-ins.length=b→belowT (ts.drop b) ins=false→insB8 x fn (o,ia,ib) p ts=(4,[],[])):=fun b hb h=>qE6 hrb (qD5 (by rw[HK.out];exact hb) h);have HMV:Hid (∀b,k-ins.length=b→belowT (ts.drop b) ins=true→movB ts ins outs=some (ts.take b++outs)):=fun b hb h=>qD4 (by rw[HK.out];exact hb) (by rw[HK.out];exact hle) h (by omega);have HV1:Hid (∀t,movB ts ins outs=some t→nextB fn (o,ia,ib) p=none→insB8 x fn (o,ia,ib) p ts=(1,[],[])):=fun t h1 h2=>qJO hrb h1 h2;have HV2:Hid (∀t l,movB ts ins outs=some t→nextB fn (o,ia,ib) p=some l→insB8 x fn (o,ia,ib) p ts=(0,t,l)):=fun t l h1 h2=>qJN hrb h1 h2;have N26:Hid (o=26→nextB fn (o,ia,ib) p=some []):=fun h=>by simp[nextB,h]
 have N23:Hid (o=23→nextB fn (o,ia,ib) p=some [ia]):=fun h=>by simp[nextB,h]
 have NL:Hid (¬o=26→¬o=23→uc≤p+1→nextB fn (o,ia,ib) p=none):=fun h1 h2 h3=>by simp[nextB,h1,h2,HUC.out,h3]
 have N24:Hid (o=24→¬uc≤p+1→nextB fn (o,ia,ib) p=some [(p:Int)+1,ia]):=fun h1 h3=>by simp[nextB,h1,HUC.out,h3]
 have ND:Hid (¬o=26→¬o=23→¬o=24→¬uc≤p+1→nextB fn (o,ia,ib) p=some [(p:Int)+1]):=fun h1 h2 h4 h3=>by simp[nextB,h1,h2,h4,HUC.out,h3]
 intro kz;revert HN HM HNB HMV HV1 HV2 N26 N23 NL N24 ND;exact kz):P:=h q
theorem jD {P Q:Prop} (q:Q) (h:Q→P:=by
 obtain⟨x,hx⟩:∃x,xs[k]? =some x:=⟨xs[k]'qS,List.getElem?_eq_getElem _⟩;intro kz;revert x hx;exact kz):P:=h q
theorem jE {P Q:Prop} (q:Q) (h:Q→P:=by
 have HB2:Hid (Below w.heap.size w w2):=(((qAk _ _).alloc (qAi _) _).alloc (by simp) _).trans (hb2.mono qK);have hk:=(hb2.block w.heap.size qK).trans ((qBh _ _ w.heap.size (by simp)).trans (qBc w 52 #[.int .i64 (o:Nat),.int .i64 (x:Nat),.int .i64 (y:Nat)]));have k0:=Blk.cell hk 0;have hs2:w.heap.size+2≤w2.heap.size:=(by have:=hb2.size;simp at this;omega);have HA2:=qAg ((hb2.block (w.heap.size+1) (by simp)).trans (arr_new w _ 152 #[.int .i64 (x:Nat),.int .i64 (y:Nat)]));intro kz;revert HB2 hk k0 hs2 HA2;exact kz):P:=h q
theorem jF {P Q:Prop} (q:Q) (h:Q→P:=by
 have HW6:=qAg (HWr.out.trans (HB6.out.mono HWr.out.size));have hws:W.heap.size≤wr.heap.size:=qA8 hs4 hsr;have HF6:Hid (Blk w6 (w.heap.size+1) 44 #[.slice P0 ua c0,.int .i64 fn.ret.1,.int .i64 fn.ret.2,.slice P1 ul c1,.slice (some b) uc c2]):=qAx (qAx (qAx HFW.out HB4.out (by omega)) HB.out (by omega)) HB6.out (by omega);have HI6:Hid (Blk w6 (w.heap.size+2) 52 #[.int .i64 o,.int .i64 ia,.int .i64 ib]):=qAx (qAx (qAx HIW.out HB4.out (by omega)) HB.out (by omega)) HB6.out (by omega);obtain⟨u0,u1⟩:w6.cell? ⟨w.heap.size+2,0,none⟩=some (.int .i64 o)∧w6.cell? ⟨w.heap.size+2,1,none⟩=some (.int .i64 ia):=⟨HI6.out.cell 0,HI6.out.cell 1⟩;have v4:w6.cell? ⟨w.heap.size+1,4,none⟩=some (.slice (some b) uc c2):=HF6.out.cell 4;have HU1:=qAg u1;have h66:w.heap.size+2<w6.heap.size:=by omega
 have HCI:Hid (∀v,Below w6.heap.size w6 v→v.cell? ⟨w.heap.size+2,1,none⟩=some (.int .i64 ia)):=fun v hb=>(hb.cell (p:=⟨w.heap.size+2,1,none⟩) h66).trans HU1.out;intro kz;revert HW6 hws HF6 HI6 u0 u1 v4 HU1 h66 HCI;exact kz):P:=h q
theorem jG {P Q:Prop} (q:Q) (h:Q→P:=by
 obtain⟨n0,hn0⟩:∃n,x.recs.length=n:=⟨_,rfl⟩;have HL0:=qAg hn0;have HS0:=qAg s0;obtain⟨n1,hn1⟩:∃n,x.funcs.length=n:=⟨_,rfl⟩;have HL1:=qAg hn1;have HS1:=qAg s1;obtain⟨n2,hn2⟩:∃n,x.imps.length=n:=⟨_,rfl⟩;have HL2:=qAg hn2;have HS2:=qAg s2;obtain⟨n3,hn3⟩:∃n,x.ints.length=n:=⟨_,rfl⟩;have HL3:=qAg hn3;have HS3:=qAg s3;obtain⟨n4,hn4⟩:∃n,x.texts.length=n:=⟨_,rfl⟩;have HL4:=qAg hn4;intro kz;revert n0 hn0 HL0 HS0 n1 hn1 HL1 HS1 n2 hn2 HL2 HS2 n3 hn3 HL3 HS3 n4 hn4 HL4;exact kz):P:=h q
theorem jH {P Q:Prop} (q:Q) (h:Q→P:=by
 have HL:=qAg hl;have HS:=qAg h;have HP0:=qAg hG;have HW:Hid (witB lo hi g xs=(decide (lo≤(n:Int)∧(n:Int)≤hi) && xs.all g)):=by rw[←hl];exact rfl
 intro kz;revert HL HS HP0 HW;exact kz):P:=h q
theorem jI {P Q:Prop} (q:Q) (h:Q→P:=by
 have HY2:=qAg hY2;have HB2:=qAg (HB1.out.trans (hb2.mono HB1.out.size));have HO1:=qAg (qA0 HP1.out hb2 (qAi _));have HS2:=qAg HB2.out.size;intro kz;revert HY2 HB2 HO1 HS2;exact kz):P:=h q
theorem jJ {P Q:Prop} (q:Q) (h:Q→P:=by
 have HUC:=qAg g2;have hpn:(p:Int)<(uc:Int):=by omega
 have hjn:(j:Int)<(n1:Int):=by have:=(qAj.1 hfn).1;omega
 have hn8:n1≤8:=by have:=HFit.out.f8;omega
 have huc:uc≤64:=by omega
 intro kz;revert HUC hpn hjn hn8 huc;exact kz):P:=h q
theorem jK {P Q:Prop} (q:Q) (h:Q→P:=by
 have TE2:Hid (∀w1,Below w.heap.size w w1→Calls Tryz.prog 22 #[.agg #[.slice A0 n0 d0,.slice A1 n1 d1,.slice A2 n2 d2,.slice A3 n3 d3,.slice A4 n4 d4]] w1 (Errs (checkN x) w1)):=TE.out;intro kz;revert TE2;exact kz):P:=h q
theorem jL {P Q:Prop} (q:Q) (h:Q→P:=by
 have HC:Hid (∀w1,Below (w.heap.size+1) (w.alloc (.cells #[.slice A n c,.slice B m d] 123)) w1→w1.cell? ⟨w.heap.size,0,none⟩=some (.slice A n c)∧w1.cell? ⟨w.heap.size,1,none⟩=some (.slice B m d)):=fun w1 hb1=>⟨(hb1.cell (p:=⟨w.heap.size,0,none⟩) (by simp)).trans zT,(hb1.cell (p:=⟨w.heap.size,1,none⟩) (by simp)).trans zT⟩;have HV0:Hid (belowT (ts.drop b) ins=false→movB ts ins outs=none):=fun h=>qD5 HBe.out h;have HV1:Hid (8<b+m→movB ts ins outs=none):=fun h=>qDB HBe.out (by rw[HM.out];exact h);have HV2:Hid (belowT (ts.drop b) ins=true→b+m≤8→movB ts ins outs=some (ts.take b++outs)):=fun h1 h2=>qD4 HBe.out HLe.out h1 (by rw[HM.out];exact h2);intro kz;revert HC HV0 HV1 HV2;exact kz):P:=h q
theorem jM {P Q:Prop} (q:Q) (h:Q→P:=by
 have HB0:Hid (Below w.heap.size w W):=by
  show Below w.heap.size w W
  rw[hW];exact(qAk _ _).alloc (qAi _) _
 intro kz;revert HB0;exact kz):P:=h q
theorem jN {P Q:Prop} (q:Q) (h:Q→P:=by
 obtain⟨q1,q2,q3,q4⟩:=qBR hc (qAl hfn);obtain⟨hgood,hnam⟩:=q4 _ (qAl hin);have hpl:=(qAj.1 hin).1;have HFit:=qAg (qA1.1 (qAw hc));intro kz;revert q1 q2 q3 q4 hgood hnam hpl HFit;exact kz):P:=h q
theorem jO {P Q:Prop} (q:Q) (h:Q→P:=by
 have TE:Hid (∀w1,Below w.heap.size w w1→Calls Tryz.prog 22 #[vAgg cs] w1 (Errs (checkN x) w1)):=fun w1 hb=>qIK cs x w1 (qBS h hb);intro kz;revert TE;exact kz):P:=h q
theorem jP {P Q:Prop} (q:Q) (h:Q→P:=by
 obtain⟨ua,g0⟩:∃n,fn.args.length=n:=⟨_,rfl⟩;obtain⟨ul,g1⟩:∃n,fn.locs.length=n:=⟨_,rfl⟩;obtain⟨uc,g2⟩:∃n,fn.code.length=n:=⟨_,rfl⟩;intro kz;revert ua g0 ul g1 uc g2;exact kz):P:=h q
theorem jQ {P Q:Prop} (q:Q) (h:Q→P:=by
 have HBW:Hid (Below w.heap.size w W):=by show Below _ _ _;rw[hW];exact qAo w _
 have HBx:Hid (Blk W w.heap.size 28 #[.slice A0 n0 d0,.slice A1 n1 d1,.slice A2 n2 d2,.slice A3 n3 d3,.slice A4 n4 d4]):=by show Blk _ _ _ _;rw[hW];exact qA9 rfl
 have hsW:w.heap.size<W.heap.size:=by rw[hW];simp
 intro kz;revert HBW HBx hsW;exact kz):P:=h q
theorem jR {P Q:Prop} (q:Q) (h:Q→P:=by
 have HB1:=qAg ((HB0.out _).trans (hb1.mono (by simp)));obtain⟨x0,x1,x2,x3,x4⟩:=HC0.out.below hb1 (by simp);intro kz;revert HB1 x0 x1 x2 x3 x4;exact kz):P:=h q
theorem jS {P Q:Prop} (q:Q) (h:Q→P:=by
 have c0:=(HB.out.cell (p:=a.add (k*2)) qB).trans (hc 0 _ rfl);have c1:=(HB.out.cell (p:=a.add (k*2+1)) qB).trans (hc 1 _ rfl);intro kz;revert c0 c1;exact kz):P:=h q
theorem jT {P Q:Prop} (q:Q) (h:Q→P:=by
 have c0:=(HB.out.cell (p:=a.add (k*3)) qB).trans (hc 0 _ rfl);have c1:=(HB.out.cell (p:=a.add (k*3+1)) qB).trans (hc 1 _ rfl);intro kz;revert c0 c1;exact kz):P:=h q
theorem jU {P Q:Prop} (q:Q) (h:Q→P:=by
 have HB1:=qAg ((HB0.out _).trans (hb1.mono (by simp)));intro kz;revert HB1;exact kz):P:=h q
theorem jV {P Q:Prop} (q:Q) (h:Q→P:=by
 have lb:(ts.take b).length=b:=by rw[List.length_take,HK.out];omega
 have r0:tysL.R (·<w1.heap.size) w1 [.slice (some a) b g] (ts.take b):=⟨some a,g,by rw[lb],by omega,by unfold maxLen;omega,((SK.out.below hb1 (qAi _)).wide fun i hi=>qAh hi hb1.size).take b⟩;have r1:tysL.R (·<w1.heap.size) w1 [.slice B m d] outs:=⟨B,d,by rw[HM.out],by rw[HM.out];exact bd,by unfold maxLen;omega,(SM.out.below hb1 (qAi _)).wide fun i hi=>qAh hi hb1.size⟩;obtain⟨A9,c9,e9,-,-,hsq⟩:=qGM (L:=tysL) hblk hblk.lt rfl r0 r1;intro kz;revert lb r0 r1 A9 c9 e9 hsq;exact kz):P:=h q
theorem jW {P Q:Prop} (q:Q) (h:Q→P:=by
 have HB0:Hid (∀o:Obj,Below w.heap.size w (w.alloc o)):=fun o=>(qAk _ _).alloc (qAi _) _;intro kz;revert HB0;exact kz):P:=h q
theorem jX {P Q:Prop} (q:Q) (h:Q→P:=by
 have HB2:=qAg (HB1.out.trans (hb2.mono HB1.out.size));intro kz;revert HB2;exact kz):P:=h q
theorem jY {P Q:Prop} (q:Q) (h:Q→P:=by
 have HN:Hid (namedB m f (o,a,b)=true):=by show namedB _ _ _=_;simp[namedB,e0,e1,e3,e4,e23,e24,e25,e27,e28,e29,e30]
 have b0:(o==0)=false:=by simpa using e0
 have b1:(o==1)=false:=by simpa using e1
 have b3:(o==3)=false:=by simpa using e3
 have b4:(o==4)=false:=by simpa using e4
 have b23:(o==23)=false:=by simpa using e23
 have b24:(o==24)=false:=by simpa using e24
 have b25:(o==25)=false:=by simpa using e25
 have b27:(o==27)=false:=by simpa using e27
 have b28:(o==28)=false:=by simpa using e28
 have b29:(o==29)=false:=by simpa using e29
 have b30:(o==30)=false:=by simpa using e30
 intro kz;revert HN b0 b1 b3 b4 b23 b24 b25 b27 b28 b29 b30;exact kz):P:=h q
theorem jZ {P Q:Prop} (q:Q) (h:Q→P:=by
 have HO:=qAg hown;have HB:=qAg hbel;have HQ:=qAg hq;have hs:=hbel.size;intro kz;revert HO HB HQ hs;exact kz):P:=h q
theorem ja {P Q:Prop} (q:Q) (h:Q→P:=by
 have HB0':Hid (Below w.heap.size w W1):=by
  show Below w.heap.size w W1
  rw[←hW1];exact⟨HB0.out.os,HB0.out.tape,HB0.out.output,HB0.out.size,HB0.out.block⟩
 intro kz;revert HB0';exact kz):P:=h q
theorem jb {P Q:Prop} (q:Q) (h:Q→P:=by
 have e:wb=false:=by
  rw[HW.out,List.all_eq_false];exact⟨x,hmem,by rw[hg];simp⟩
 have E:=qAg e;intro kz;revert e E;exact kz):P:=h q
theorem jc {P Q:Prop} (q:Q) (h:Q→P:=by
 have HB:=qAg hbel;have hs:=hbel.size;intro kz;revert HB hs;exact kz):P:=h q
theorem jd {P Q:Prop} (q:Q) (h:Q→P:=by
 have SKv:Hid (∀v,Below w.heap.size w v→Sq typL (·<v.heap.size) v D ts):=fun v hb=>(sk.below hb (qAi _)).wide fun i hi=>qAh hi hb.size;intro kz;revert SKv;exact kz):P:=h q
theorem je {P Q:Prop} (q:Q) (h:Q→P:=by
 have HBV:Hid (Below w.heap.size w V):=by show Below _ _ _;rw[hV];exact HB1.out
 have HCV:Hid (V.cell? ⟨w.heap.size,1,none⟩=some (.slice B m d)):=by show _=_;rw[hV];exact x1 dq osq
 have hsV:w.heap.size<V.heap.size:=by rw[hV];exact HS1.out
 intro kz;revert HBV HCV hsV;exact kz):P:=h q
theorem jf {P Q:Prop} (q:Q) (h:Q→P:=by
 have HB2:=qAg hB2;have HO2:=qAg (qA0 (HO.out.alloc _) hb2 (qAi _));have Hb2:=qAg ((HB.out.alloc hs _).trans (hb2.mono qK));have hs2:=Hb2.out.size;intro kz;revert HB2 HO2 Hb2 hs2;exact kz):P:=h q
theorem jg {P Q:Prop} (q:Q) (h:Q→P:=by
 have Hb2:=qAg ((HB.out.alloc hs _).trans (hb2.mono qK));intro kz;revert Hb2;exact kz):P:=h q
theorem jh {P Q:Prop} (q:Q) (h:Q→P:=by
 have HQ:Hid (k-n=q):=hq;have e1:(k:Int)-(n:Int)=(q:Int):=by omega
 have e2:decide ((q:Int)<0)=false:=by simp
 have e3:IntKind.i64.wrap ((q:Int)+(m:Int))=(q:Int)+(m:Int):=by rw[qAv];omega
 have e4:¬(8:Int)<(q:Int)+(m:Int):=by omega
 have e5:decide ((8:Int)<(q:Int)+(m:Int))=false:=by simp;omega
 have e6:(q:Int)≤(g:Int):=by omega
 have e7:q≤g:=by omega
 have hp64:p≤64:=by omega
 have hwp:IntKind.i64.wrap ((p:Int)+1)=(p:Int)+1:=by rw[qAv];omega
 intro kz;revert HQ e1 e2 e3 e4 e5 e6 e7 hp64 hwp;exact kz):P:=h q
theorem ji {P Q:Prop} (q:Q) (h:Q→P:=by
 have HB0:Hid (∀o:Obj,Below w.heap.size w (w.alloc o)):=fun o=>qAo w o;intro kz;revert HB0;exact kz):P:=h q
theorem jk {P Q:Prop} (q:Q) (h:Q→P:=by
 have HBR:Hid (∀dq osq,Below w.heap.size w (Go.Sort.grow (redrawn U dq) osq)):=fun dq osq=>HBU.out.trans ((below_regrown U dq osq).mono HBU.out.size);intro kz;revert HBR;exact kz):P:=h q
theorem jl {P Q:Prop} (q:Q) (h:Q→P:=by
 obtain⟨b,hb⟩:∃b:Nat,k-n=b:=⟨_,rfl⟩;have HBe:Hid (ts.length-ins.length=b):=by show _=b;rw[HK.out,HN.out];exact hb
 have HLe:Hid (ins.length≤ts.length):=by show _≤_;rw[HK.out,HN.out];omega
 have e1:(k:Int)-(n:Int)=(b:Int):=by omega
 have e2:b≤k:=by omega
 have e3:b≤g:=by omega
 have e4:(b:Int)≤(k:Int):=by omega
 have e5:(b:Int)≤(g:Int):=by omega
 have e6:k-b=n:=by omega
 have e7:(k:Int)≤(g:Int):=by omega
 have e8:decide ((b:Int)<0)=false:=by simp
 intro kz;revert b hb HBe HLe e1 e2 e3 e4 e5 e6 e7 e8;exact kz):P:=h q
theorem jm {P Q:Prop} (q:Q) (h:Q→P:=by
 have HO3:=qAg hown3;have HB3:=qAg (HB2.out.grown hg3 HS2.out (fun i hi=>(HO1.out.lt i hi).1));intro kz;revert HO3 HB3;exact kz):P:=h q
theorem jn {P Q:Prop} (q:Q) (h:Q→P:=by
 have HL:=qAg hl;have HS:=qAg h;have HP0:=qAg hG;intro kz;revert HL HS HP0;exact kz):P:=h q
theorem jo {P Q:Prop} (q:Q) (h:Q→P:=by
 have hjn:(j:Int)<(n1:Int):=by have:=(qAj.1 hfn).1;omega
 intro kz;revert hjn;exact kz):P:=h q
theorem jp {P Q:Prop} (q:Q) (h:Q→P:=by
 have HB0:Hid (Below w.heap.size w (w.alloc (.cells #[.slice A0 n0 d0,.slice A1 n1 d1,.slice A2 n2 d2,.slice A3 n3 d3,.slice A4 n4 d4] 28))):=(qAk _ _).alloc (qAi _) _;intro kz;revert HB0;exact kz):P:=h q
theorem jq {P Q:Prop} (q:Q) (h:Q→P:=by
 have HN:=qAg hn;have HL:=qAg hl;have HS:=qAg h;have HP0:=qAg hP;intro kz;revert HN HL HS HP0;exact kz):P:=h q
theorem jr {P Q:Prop} (q:Q) (h:Q→P:=by
 have HB4:=qAg hb4;have HW4:=qAg (HBW.out.trans (hb4.mono HBW.out.size));have hs4:=hb4.size;have S9:=qAg s9;have S8:=qAg s8;intro kz;revert HB4 HW4 hs4 S9 S8;exact kz):P:=h q
theorem ju {P Q:Prop} (q:Q) (h:Q→P:=by
 have HBW:Hid (Below w.heap.size w W):=by show Below _ _ _;rw[hW];exact qAo w _
 intro kz;revert HBW;exact kz):P:=h q
theorem jv {P Q:Prop} (q:Q) (h:Q→P:=by
 have hk:k<n0:=by omega
 obtain⟨r,hr⟩:∃r,m.recs[k]? =some r:=⟨m.recs[k]'(by rw[h0];exact hk),List.getElem?_eq_getElem _⟩;intro kz;revert hk r hr;exact kz):P:=h q
theorem jw {P Q:Prop} (q:Q) (h:Q→P:=by
 have HL:=qAg hl;have HS:=qAg h;intro kz;revert HL HS;exact kz):P:=h q
theorem jx {P Q:Prop} (q:Q) (h:Q→P:=by
 obtain⟨n3,h3⟩:∃n,x.ints.length=n:=⟨_,rfl⟩;obtain⟨n4,h4⟩:∃n,x.texts.length=n:=⟨_,rfl⟩;intro kz;revert n3 h3 n4 h4;exact kz):P:=h q
theorem jy {P Q:Prop} (q:Q) (h:Q→P:=by
 have HO3:=qAg hown3;have HB3:=qAg (hb3.mono (qAi w2.heap.size));have HA3:=qAg ((hb3.block (w.heap.size+1) (by omega)).trans HA2.out);have a30:=Blk.cell HA3.out 0;intro kz;revert HO3 HB3 HA3 a30;exact kz):P:=h q
theorem jz {P Q:Prop} (q:Q) (h:Q→P:=by
 have HK:=qAg hk;have k0:=Blk.cell hk 0;have k1:=Blk.cell hk 1;have k2:=Blk.cell hk 2;have hs1:w.heap.size<w1.heap.size:=qR;intro kz;revert HK k0 k1 k2 hs1;exact kz):P:=h q
theorem j3 {P Q:Prop} (q:Q) (h:Q→P:=by
 have TY:Hid (∀X,Calls Tryz.prog 29 #[.agg #[.int .i64 o1,.int .i64 o2]] X fun e w'=>∃u,e= .returned u∧w'.ownsRow X.heap.size 5 1 u yr.length (Bs yr)∧Below X.heap.size X w'):=fun X=>by rw[←hyr];exact rtype o1 o2 X i1 i2
 have HYR:Hid (tB p.ret=yr):=by show tB p.ret=yr;rw[HOO.out,←hyr];rfl
 intro kz;revert TY HYR;exact kz):P:=h q
theorem j4 {P Q:Prop} (q:Q) (h:Q→P:=by
 have HBU:Hid (Below w.heap.size w U):=by show Below _ _ _;rw[hU];exact HB0.out _
 have HCU:Hid (U.cell? ⟨w.heap.size,0,none⟩=some (.slice A n c)∧U.cell? ⟨w.heap.size,1,none⟩=some (.slice B m d)):=by show _∧_;rw[hU];exact HC.out _ (qAk _ _)
 have hsU:w.heap.size<U.heap.size:=by rw[hU];simp
 intro kz;revert HBU HCU hsU;exact kz):P:=h q
theorem j5 {P Q:Prop} (q:Q) (h:Q→P:=by
 obtain⟨n,hn⟩:∃n,ins.length=n:=⟨_,rfl⟩;obtain⟨m,hm⟩:∃m,outs.length=m:=⟨_,rfl⟩;have hnm:=qIm hc hrb;intro kz;revert n hn m hm hnm;exact kz):P:=h q
theorem j6 {P Q:Prop} (q:Q) (h:Q→P:=by
 have HB1:=qAg (HBR.out dq osq);have HS1:Hid (w.heap.size<(Go.Sort.grow (redrawn U dq) osq).heap.size):=qAh hsU (below_regrown U dq osq).size;intro kz;revert HB1 HS1;exact kz):P:=h q
theorem j8 {P Q:Prop} (q:Q) (h:Q→P:=by
 have HB1:Hid (Below w.heap.size w w1):=((qAk _ _).alloc (qAi _) _).trans (hb1.mono (by simp));intro kz;revert HB1;exact kz):P:=h q
theorem j9 {P Q:Prop} (q:Q) (h:Q→P:=by
 have g0:¬(8:Int)<(n0:Int):=by omega
 have g1:¬(n1:Int)<(1:Int):=by omega
 have g2:¬(8:Int)<(n1:Int):=by omega
 intro kz;revert g0 g1 g2;exact kz):P:=h q
theorem qAA {P Q:Prop} (q:Q) (h:Q→P:=by
 have HO1:=qAg hown1;have HB1:=qAg hb1;intro kz;revert HO1 HB1;exact kz):P:=h q
theorem qAB {P Q:Prop} (q:Q) (h:Q→P:=by
 have cr:=qBI (K:=tysL.k) rfl (hc 0 _ rfl);have cr2:∀o1 o2 o3:Obj,(((w.alloc o1).alloc o2).alloc o3).cell? (a0.add k)=_:=fun o1 o2 o3=>(((((qAk _ w).alloc (qAi _) o1).alloc (by simp) o2).alloc (by simp;omega) o3).cell (p:=a0.add k) qB).trans cr;intro kz;revert cr cr2;exact kz):P:=h q
theorem qAC {P Q:Prop} (q:Q) (h:Q→P:=by
 have e:wb=false:=by rw[HW.out];simp;omega
 intro kz;revert e;exact kz):P:=h q
theorem qAD {P Q:Prop} (q:Q) (h:Q→P:=by
 have HB2:=qAg hB2;have HO2:=qAg (qA0 (HO.out) hb2 (qAi _));have Hb2:=qAg ((HB.out).trans (hb2.mono (hs)));have hs2:=Hb2.out.size;intro kz;revert HB2 HO2 Hb2 hs2;exact kz):P:=h q
theorem qAE {P Q:Prop} (q:Q) (h:Q→P:=by
 have HO4:=qAg hown4;have HB4:Hid (Below V.heap.size V w4):=qz;have SS4:=qAg ((HB4.out.cell (p:=⟨w.heap.size,1,none⟩) hsV).trans HCV.out);intro kz;revert HO4 HB4 SS4;exact kz):P:=h q
theorem qAF {P Q:Prop} (q:Q) (h:Q→P:=by
 have HO5:=qAg hown5;have HB5:=qAg (HB4.out.grown hg5 HS4.out (fun i hi=>(HO4.out.lt i hi).1));intro kz;revert HO5 HB5;exact kz):P:=h q
theorem qAG {P Q:Prop} (q:Q) (h:Q→P:=by
 obtain⟨ua,hua⟩:∃n,fn.args.length=n:=⟨_,rfl⟩;obtain⟨ul,hul⟩:∃n,fn.locs.length=n:=⟨_,rfl⟩;obtain⟨uc,huc⟩:∃n,fn.code.length=n:=⟨_,rfl⟩;intro kz;revert ua hua ul hul uc huc;exact kz):P:=h q
theorem qAH {P Q:Prop} (q:Q) (h:Q→P:=by
 have Hb2:=qAg (HB.out.trans (hb2.mono hs));intro kz;revert Hb2;exact kz):P:=h q
theorem qAI {P Q:Prop} (q:Q) (h:Q→P:=by
 have c2:=(HB.out.cell (p:=a.add (k*3+2)) qB).trans (hc 2 _ rfl);intro kz;revert c2;exact kz):P:=h q
theorem qAJ {P Q:Prop} (q:Q) (h:Q→P:=by
 have c0:=(HB.out.cell (p:=a.add (k*5)) qB).trans (hc 0 _ rfl);have c1:=(HB.out.cell (p:=a.add (k*5+1)) qB).trans (hc 1 _ rfl);intro kz;revert c0 c1;exact kz):P:=h q
theorem qAK {P Q:Prop} (q:Q) (h:Q→P:=by
 have hk:∀o:Obj,∀b,b<w.heap.size→(w.alloc o).heap[b]? =w.heap[b]? :=fun o b hb=>qBh w _ b hb;have e:(⟨w.heap.size,0,none⟩:Addr).add j=⟨w.heap.size,j,none⟩:=by unfold Addr.add;split<;>simp_all
 intro kz;revert hk e;exact kz):P:=h q
theorem qAL {P Q:Prop} (q:Q) (h:Q→P:=by
 have Y0c:=qAg (Y0b.out.below hb3);have Y1b:=qAg (Y1a.out.below hb3);have Y2a:=qAg hy2;have HB3:=qAg (HB2.out.trans (hb3.mono HB2.out.size));have HC3:=qAg (HC2.out.below hb3 HS2.out);have HS3:=qAg (qAh HS2.out hb3.size);intro kz;revert Y0c Y1b Y2a HB3 HC3 HS3;exact kz):P:=h q
theorem qAM {P Q:Prop} (q:Q) (h:Q→P:=by
 have HY4:=qAg hY4;have HO4:=qAg (qA0 (qDg w1 _ o rfl) hb4 (qAi _));have HB4:Hid (Below w1.heap.size w1 w4):=((qAk _ _).alloc (qAi _) _).trans (hb4.mono (by simp));have HS4:=qAg HB4.out.size;intro kz;revert HY4 HO4 HB4 HS4;exact kz):P:=h q
theorem qAN {P Q:Prop} (q:Q) (h:Q→P:=by
 have k0:=fun o1 o2=>((qAo w o1).alloc (by simp) o2).cell (p:=a.add (j*2)) qB |>.trans (hc 0 _ rfl);have k1:=fun o1 o2=>((qAo w o1).alloc (by simp) o2).cell (p:=a.add (j*2+1)) qB |>.trans (hc 1 _ rfl);intro kz;revert k0 k1;exact kz):P:=h q
theorem qAO {P Q:Prop} (q:Q) (h:Q→P:=by
 have HB4:Hid (Below W.heap.size W w4):=(by show Below _ _ _;exact(qAk _ W).drew.trans (hb4.mono (by simp)));have S9:=qAg s9;have S8:=qAg s8;have HD9:=qAg (And.intro hd9 hm9);have SS4:=qAg (HC.out _ HB4.out);intro kz;revert HB4 S9 S8 HD9 SS4;exact kz):P:=h q
theorem qAP {P Q:Prop} (q:Q) (h:Q→P:=by
 obtain⟨p,hp⟩:∃p,x.funcs[k]? =some p:=⟨x.funcs[k]'(by rw[HL1.out];exact hlt),List.getElem?_eq_getElem _⟩;intro kz;revert p hp;exact kz):P:=h q
theorem qAQ {P Q:Prop} (q:Q) (h:Q→P:=by
 have HB4:=qAg (HB3.out.trans (hb4.mono HB3.out.size));intro kz;revert HB4;exact kz):P:=h q
theorem qAR {P Q:Prop} (q:Q) (h:Q→P:=by
 obtain⟨p,hp⟩:∃p,x.imps[k]? =some p:=⟨x.imps[k]'(by rw[HL2.out];exact hlt),List.getElem?_eq_getElem _⟩;intro kz;revert p hp;exact kz):P:=h q
theorem qAS {P Q:Prop} (q:Q) (h:Q→P:=by
 obtain⟨z0,z1,z2,z3,z4⟩:=HZ.out wr HB.out;have k0':0≤(k:Int):=by omega
 intro kz;revert z0 z1 z2 z3 z4 k0';exact kz):P:=h q
theorem qAT {P Q:Prop} (q:Q) (h:Q→P:=by
 have htab:=fun(L:List Value) h0 h9 h10 h21 h23 h24 h19 h20=>qIZ (L:=L) (l:=l) (q:=t) h10 h23 h24 h19 h20 (qAj.1 ht).1 hbb hcb (qEw (C:=d0) h0 h9 h21 h23 hjn hab hc0);intro kz;revert htab;exact kz):P:=h q
theorem qAU {P Q:Prop} (q:Q) (h:Q→P:=by
 have HN:=qAg hn;have HM:=qAg hm;have HK:=qAg hk;have SN:=qAg sn;have SM:=qAg sm;have SK:=qAg sk;intro kz;revert HN HM HK SN SM SK;exact kz):P:=h q
theorem qAV {P Q:Prop} (q:Q) (h:Q→P:=by
 have Hb2:=qAg ((HB.out).trans (hb2.mono (hs)));intro kz;revert Hb2;exact kz):P:=h q
theorem qAW {P Q:Prop} (q:Q) (h:Q→P:=by
 have v3:=HFV.out.cell 4;obtain⟨-,-,-,-,-,y5,y6,y7⟩:=HCL.out V HBV.out;intro kz;revert v3 y5 y6 y7;exact kz):P:=h q
theorem qAX {P Q:Prop} (q:Q) (h:Q→P:=by
 have e:∀i,(⟨g,0,none⟩:Addr).add i=⟨g,i,none⟩:=fun i=>by unfold Addr.add;split<;>simp_all
 intro kz;revert e;exact kz):P:=h q
theorem qAY {P Q:Prop} (q:Q) (h:Q→P:=by
 have HP1:=qAg hown1;have HB1:=qAg (hb1.mono (qAi W1.heap.size));intro kz;revert HP1 HB1;exact kz):P:=h q
theorem qAZ {P Q:Prop} (q:Q) (h:Q→P:=by
 have cr:=qBI (K:=tysL.k) rfl (hc 0 _ rfl);have cr2:∀o:Obj,(w.alloc o).cell? (a0.add k)=_:=fun o=>(((qAk _ w).alloc (qAi _) o).cell (p:=a0.add k) qB).trans cr;intro kz;revert cr cr2;exact kz):P:=h q
theorem qAa {P Q:Prop} (q:Q) (h:Q→P:=by
 have hz:m.recs[a.toNat]? =none:=List.getElem?_eq_none (by rw[h0];omega);intro kz;revert hz;exact kz):P:=h q
theorem qAb {P Q:Prop} (q:Q) (h:Q→P:=by
 obtain⟨wb,hwb⟩:∃wb,witB lo hi g xs=wb:=⟨_,rfl⟩;intro kz;revert wb hwb;exact kz):P:=h q
theorem qAc {P Q:Prop} (q:Q) (h:Q→P:=by
 have HBx:Hid (Blk W w.heap.size 28 #[.slice A0 n0 d0,.slice (some a) n1 d1,.slice A2 n2 d2,.slice A3 n3 d3,.slice A4 n4 d4]):=by show Blk _ _ _ _;rw[hW];exact qA9 rfl
 intro kz;revert HBx;exact kz):P:=h q
theorem qAd {P Q:Prop} (q:Q) (h:Q→P:=by
 have e:xs.any g=true:=qJt hmem hg;have E:=qAg e;intro kz;revert e E;exact kz):P:=h q
theorem qAf {P Q:Prop} (q:Q) (h:Q→P:=by
 have HO4:=qAg hown4;have HG4:=qAg hg4;intro kz;revert HO4 HG4;exact kz):P:=h q
theorem qAe {P Q:Prop} (q:Q) (h:Q→P:=by
 have c0:W.cell? ⟨w.heap.size,0,none⟩=some (.int .i64 k):=by rw[hW];simp[go_sem]
 have c1:W.cell? ⟨w.heap.size,1,none⟩=some (.int .i64 n):=by rw[hW];simp[go_sem]
 intro kz;revert c0 c1;exact kz):P:=h q
theorem trn (h:Below B a b) (k:Below b.heap.size b c) (hB:B=a.heap.size:=by rfl):Below B a c:=h.trans (k.mono (by rw[hB];exact h.size))
theorem qAz (a:Addr) (n:Nat):(a.add n).block=a.block:=by
 unfold Addr.add
 by_cases h:n=0<;>simp[h]
theorem qCG (a:Addr) (i j:Nat):(a.add i).add j=a.add (i+j):=by
 unfold Addr.add
 by_cases hi:i=0
 · simp[hi]
 · by_cases hj:j=0
   · simp[hi,hj]
   · simp[hi,hj,Nat.add_assoc]
def Blk (w:World) (g:Nat) (t:TypeId) (cs:Array Value):Prop:=w.heap[g]? =some (.cells cs t (0,0))
theorem Blk.lt (h:Blk w g t cs):g<w.heap.size:=(Array.getElem?_eq_some_iff.1 h).1
theorem Blk.cell (h:Blk w g t cs) (i:Nat):w.cell? ⟨g,i,none⟩=cs[i]? :=cell_of_row w g i cs t (0,0) h
theorem Blk.frozen (h:Blk w g t cs) (i:Nat):w.frozen? ⟨g,i,none⟩=false:=by
 unfold Blk at h;simp[World.frozen?,h]
theorem Blk.set (h:Blk w g t cs) (i:Nat) (u:Value):Blk (w.setCell ⟨g,i,none⟩ u) g t (cs.setIfInBounds i u):=by
 unfold Blk at h⊢;simp[World.setCell,Array.getElem?_modify,h]
theorem qE0 {k:IntKind} {a b:Int} (h:a=b):Ending.returned (.int k a)= .returned (.int k b):=by rw[h]
def Only (g:Nat) (w w':World):Prop:=w.grownBy w' (some g)
theorem qBs (g:Nat) (w:World):Only g w w:=⟨rfl,rfl,rfl,qAi _,fun _ _ _=>rfl⟩
theorem qCm (h:Only g a b) (k:Only g b c):Only g a c:=
 ⟨k.os.trans h.os,k.tape.trans h.tape,k.output.trans h.output,qA8 h.size k.size,fun i hi hne=>(k.block i (qAh hi h.size) hne).trans (h.block i hi hne)⟩
theorem qBA (h:Only g a b) (i:Nat) (u:Value):Only g a (b.setCell ⟨g,i,none⟩ u):=
 qCm h ⟨rfl,rfl,rfl,by simp[World.setCell],fun k _ hne=>qA2 _ _ _ _ (fun e=>hne (by rw[e]))⟩
theorem qD1 (h:Below a.heap.size a b):Only g a b:=⟨h.os,h.tape,h.output,h.size,fun i hi _=>h.block i hi⟩
theorem qEL (h:Only g a b) (hg:B≤g) (hB:B≤a.heap.size):Below B a b:=
 ⟨h.os,h.tape,h.output,h.size,fun i hi=>h.block i (by omega) (fun e=>by injection e;omega)⟩
theorem qDQ (h:Only g a b) (k:Below a.heap.size b c):Only g a c:=
 ⟨k.os.trans h.os,k.tape.trans h.tape,k.output.trans h.output,qA8 h.size k.size,fun i hi hne=>(k.block i hi).trans (h.block i hi hne)⟩
def IsRow (k:IntKind) (w:World) (a:Option Addr) (len cap:Nat) (zs:List Int):Prop:=
 (a=none∧len=0∧cap=0∧zs=[])∨
 ∃x,a=some x∧len≤cap∧cap≤maxLen∧zs.length=cap∧(∀i,i<zs.length→w.cell? (x.add i)=some (.int k (zs.getD i 0)))∧∀n∈zs,(Lit.int k n).wf=true
def Bs (xs:List Nat):List Value:=xs.map fun x:Nat=>Value.int .u8 (x:Int)
theorem qDO (xs:List Nat):(Bs xs).length=xs.length:=by simp[Bs]
theorem qHB (xs:List Nat) (j:Nat) (h:j<xs.length):(Bs xs)[j]? =some (.int .u8 ((xs[j]?.getD 0:Nat):Int)):=by simp[Bs,h]
theorem qHC (xs ys:List Nat):Bs (xs++ys)=Bs xs++Bs ys:=by simp[Bs]
theorem Bs_one (xs:List Nat):∀u∈Bs xs,u.oneCell'=true:=by
 intro u hu;obtain⟨x,_,rfl⟩:=List.mem_map.1 hu
 rfl
def Byt (S:Nat→Prop) (w:World) (A:Option Addr) (xs:List Nat):Prop:=
 0<xs.length→∃a,A=some a∧S a.block∧∀j,j<xs.length→w.cell? (a.add j)=some (.int .u8 ((xs[j]?.getD 0:Nat):Int))
theorem Byt.nil (S:Nat→Prop) (w:World) (A:Option Addr):Byt S w A []:=fun h=>absurd h (by simp)
theorem Byt.keep {xs:List Nat} (h:Byt S w A xs) (hk:∀b,S b→w'.heap[b]? =w.heap[b]?):Byt S w' A xs:=fun hn=>by
 obtain⟨a,e,hs,hc⟩:=h hn;exact⟨a,e,hs,fun j hj=>(qAy (hk _ zo)).trans (hc j hj)⟩
theorem Byt.wide {xs:List Nat} (h:Byt S w A xs) (hk:∀b,S b→T b):Byt T w A xs:=fun hn=>by
 obtain⟨a,e,hs,hc⟩:=h hn;exact⟨a,e,hk _ hs,hc⟩
theorem Byt.take {xs:List Nat} (h:Byt S w A xs) (k:Nat):Byt S w A (xs.take k):=fun hn=>by
 have hl:(xs.take k).length≤xs.length:=by simp;omega
 obtain⟨a,e,hs,hc⟩:=h (by omega);refine⟨a,e,hs,fun j hj=> ?_⟩;have hj':j<k:=by simp at hj;omega
 rw[hc j (by omega),List.getElem?_take_of_lt hj']
theorem Byt.drop {xs:List Nat} (h:Byt S w A xs) (k:Nat):Byt S w (A.map (·.add k)) (xs.drop k):=fun hn=>by
 have hl:(xs.drop k).length=xs.length-k:=by simp
 obtain⟨a,e,hs,hc⟩:=h (by omega);refine⟨a.add k,by rw[e];rfl,by rw[qAz];exact hs,fun j hj=> ?_⟩;rw[qCG,hc (k+j) (by omega),List.getElem?_drop]
theorem Byt.at {xs:List Nat} (h:Byt S w A xs) (hk:k<xs.length):
 ∃a,A=some a∧S a.block∧w.cell? (a.add k)=some (.int .u8 ((xs[k]?.getD 0:Nat):Int)):=by
 obtain⟨a,e,hs,hc⟩:=h (by omega);exact⟨a,e,hs,hc k hk⟩
theorem qAu {xs:List Nat} (h:w.ownsRow base 5 1 v n (Bs xs)):
 ∃A c,v= .slice A n c∧n=xs.length∧n≤c∧c≤maxLen∧Byt (fun b=>base≤b∧b<w.heap.size) w A xs:=by
 have hn:n=xs.length:=by have:=h.1;rw[qDO] at this;omega
 rcases h.2 with⟨rfl,h0⟩|⟨g,cap,cur,rfl,hb,hg,hnc,hcm,_,_⟩
 · refine⟨none,0,by rw[h0],hn,by omega,by simp[maxLen],fun hpos=>absurd hpos (by omega)⟩
 · refine⟨some ⟨g,0,none⟩,cap,rfl,hn,hnc,hcm,fun _=>⟨⟨g,0,none⟩,rfl,⟨hb,(Array.getElem?_eq_some_iff.1 hg).1⟩,fun j hj=> ?_⟩⟩
   exact h.cells rfl j _ (qHB xs j hj)
theorem qCr:(Tryz.prog.info? 5).map (fun i=>(i.zero,i.size,i.bytes))=some (some (.int .u8 0),1,1):=by kernel_rfl
section
variable (w:World)
theorem qB6 (base ty:Nat) (v:Value) (n:Nat) (xs:List Nat) (hown:w.ownsRow base 5 1 v n (Bs xs)) (A:Option Addr) (m c:Nat) (ys:List Nat) (hm:ys.length=m)
 (S:Nat→Prop) (hy:Byt S w A ys) (hbig:n+m≤140737488355328) (hbase:base≤w.heap.size):
 ∃v' w',(Builtin.append_ #[62,62] ty #[v,.slice A m c]).run Tryz.prog w= .ok v' w'∧w'.ownsRow base 5 1 v' (n+m) (Bs (xs++ys))∧w.grownBy w' v.ownBlock∧
  (v'.ownBlock=v.ownBlock∨v'.ownBlock=some w.heap.size):=by
 obtain⟨i0,hi0,hz0,hz1,hz2⟩:=info_parts qCr;rw[qHC];rcases A with _|a
 · have h0:m=0:=by
    rcases Nat.eq_zero_or_pos m with h|h
    · exact h
    · obtain⟨a,h,_⟩:=hy (by omega)
      cases h
   subst h0;obtain rfl:ys=[]:=qA4 hm;refine⟨v,w,?_,by simpa[Bs] using hown,⟨rfl,rfl,rfl,qAi _,fun _ _ _=>rfl⟩,.inl rfl⟩;have ht:=run_underlying (P:=Tryz.prog) (w:=w) Tryz.underlying62;exact q9
 · have hcells:∀j u,(Bs ys)[j]? =some u→w.cell? (a.add j)=some u:=by
    intro j u hu;have hj:j<ys.length:=by
     rcases Nat.lt_or_ge j ys.length with h|h
     · exact h
     · rw[List.getElem?_eq_none (by rw[qDO];omega)] at hu;cases hu
    obtain⟨a',e,_,hc⟩:=hy (by omega);injection e with e;subst e;rw[hc j hj,←hu,qHB ys j hj]
   obtain⟨v',w',hrun,h2,h3,_,h5⟩:=run_append_own_at (P:=Tryz.prog) w base 62 ty 5 i0 (.int .u8 0) 1 1 Tryz.underlying62 hi0 hz0 hz1 hz2 rfl (by omega) v n (Bs xs) hown a m c (Bs ys) (by rw[qDO];omega) hcells (Bs_one ys)
    zh (by omega) hbase
   exact⟨v',w',hrun,h2,h3,h5⟩
theorem qAt {ops:Array Oper} {rest:List Oper} {o:Oper} {a:Act} {Q:Exit→Act→World→Prop} (hgd:o.guard=none) (s x:Operand)
 (ho:o.op= .call {callee:= .builtin .append,args:= #[s,x],argTypes:= #[62,62]})
 (base:Nat) (v:Value) (n:Nat) (xs:List Nat) (hs:a.eval s=v) (hown:w.ownsRow base 5 1 v n (Bs xs)) (A:Option Addr) (m c:Nat) (ys:List Nat) (hx:a.eval x= .slice A m c) (hm:ys.length=m)
 (S:Nat→Prop) (hy:Byt S w A ys) (hbig:n+m≤140737488355328) (hbase:base≤w.heap.size)
 (h:∀v' w',w'.ownsRow base 5 1 v' (n+m) (Bs (xs++ys))→w.grownBy w' v.ownBlock→(v'.ownBlock=v.ownBlock∨v'.ownBlock=some w.heap.size)→wpList Tryz.prog ops Q rest (a.put o.dst v') w'):
 wpList Tryz.prog ops Q (o::rest) a w:=by
 refine wpList_plain hgd fun _ hK=> ?_;obtain⟨v',w',hrun,h2,h3,h4⟩:=qB6 w base o.type v n xs hown A m c ys hm S hy hbig hbase;unfold Oper.wp execOp;simp only[ho,resolve,invoke,builtin,Sem.run_bind,Sem.run_pure,Result.andThen_ok,List.map_toArray,List.map_cons,List.map_nil,hs,hx,hrun];exact hK _ _ (h v' w' h2 h3 h4)
end
theorem qFM (w:World) (z:Int) (x:Nat) (h:z=(x:Int)):Byt (·=w.heap.size) (w.alloc (.cells #[.int .u8 z] 5)) (some ⟨w.heap.size,0,none⟩) [x]:=fun _=>
 ⟨_,rfl,rfl,fun j hj=>by
   obtain rfl:j=0:=by simp at hj;omega
   subst h;exact cell_one_new _ _ _ 0 _ rfl⟩
theorem qDg (w:World) (z:Int) (x:Nat) (h:z=(x:Int)):(w.alloc (.cells #[.int .u8 z] 5)).ownsRow w.heap.size 5 1 (.slice (some ⟨w.heap.size,0,none⟩) 1 1) 1 (Bs [x]):=by
 subst h;exact⟨rfl,.inr ⟨w.heap.size,1,_,rfl,qAi _,heap_alloc_new w _,qAi _,by simp[maxLen],rfl,rfl⟩⟩
theorem qA0 {xs:List Value} (h:w.ownsRow base 5 1 v n xs) (hb:Below B w w') (hB:w.heap.size≤B):w'.ownsRow base 5 1 v n xs:=
 h.kept (w':=w') (row:=none) ⟨hb.os,hb.tape,hb.output,hb.size,fun k hk _=>hb.block k (by omega)⟩ (by cases v.ownBlock<;>simp)
theorem Byt.below {xs:List Nat} (h:Byt (·<B) w A xs) (hb:Below B' w w') (hB:B≤B'):Byt (·<B) w' A xs:=h.keep fun b h1=>hb.block b (qAh h1 hB)
open Go.ChangeShapes Go.WideShapes Go.ChangeAt Go.RowKit
theorem own:ownKnob Tryz.prog.godebug=none:=by kernel_rfl
theorem laidOut:laidOutB Tryz.prog=true:=by kernel_rfl
open Go.ChangeShapes Go.WideShapes Go.ChangeAt Go.RowKit
def vb (v:Nat):List Nat:=if v<128 then [v] else (v % 128+128)::vb (v / 128)
termination_by v
decreasing_by omega
theorem qCM (v:Nat) (h:v<128):vb v=[v]:=by rw[vb,if_pos h]
theorem qEu (v:Nat) (h:¬v<128):vb v=(v % 128+128)::vb (v / 128):=by rw[vb,if_neg h]
theorem qGK (v:Nat):0<(vb v).length:=by
 by_cases h:v<128
 · rw[qCM v h];simp
 · rw[qEu v h];simp
theorem qBK (k:Nat):∀v,v<128 ^ (k+1)→(vb v).length≤k+1:=by
 induction k with
 |zero=>intro v hv;rw[qCM v (by simpa using hv)];simp
 |succ k ih=>
  intro v hv
  by_cases h:v<128
  · rw[qCM v h];simp
  · rw[qEu v h,List.length_cons]
    have:v / 128<128 ^ (k+1):=Nat.div_lt_of_lt_mul (by rw[Nat.pow_succ] at hv;omega);have:=ih _ this
    omega
def sv:List Nat→Nat
 |[]=>0
 |x::r=>x % 128+128*sv r
def B64:Nat:=18446744073709551616
def IsVar (xs:List Nat) (v n:Nat):Prop:=n≤xs.length∧xs.take n=vb v∧v<B64
theorem IsVar.len {xs:List Nat} {v:Nat} (h:IsVar xs v n):n=(vb v).length:=by
 rw[←h.2.1,List.length_take];have:=h.1;omega
theorem IsVar.pos {xs:List Nat} {v:Nat} (h:IsVar xs v n):0<n:=by rw[h.len];exact qGK v
def More (xs:List Nat) (i:Nat):Prop:=i≤xs.length∧∀j,j<i→128≤xs[j]?.getD 0
theorem More.zero (xs:List Nat):More xs 0:=⟨qAq _,fun j hj=>absurd hj (by omega)⟩
theorem More.succ {xs:List Nat} (h:More xs i) (hi:i<xs.length) (hx:128≤xs[i]?.getD 0):More xs (i+1):=
 ⟨hi,fun j hj=>by rcases Nat.lt_or_ge j i with hji|hji;exact h.2 j hji;obtain rfl:j=i:=by omega
                  exact hx⟩
def argN (op:Int):Int:=
 if op=29∨op=30 then 2
 else if op=0∨op=1∨op=3∨op=4∨op=23∨op=24∨op=25∨op=27∨op=28 then 1
 else if op<0∨42≤op then -1 else 0
theorem qEN (op:Int):argN op= -1∨argN op=0∨argN op=1∨argN op=2:=by
 unfold argN
 repeat' split
 all_goals simp
theorem argN_op (op:Int) (h:0≤argN op):0≤op∧op<42:=by
 unfold argN at h
 repeat' split at h
 all_goals omega
def fitN (n a b:Int):Bool:=decide (0≤a∧a≤(if 0<n then 255 else 0)∧0≤b∧b≤(if 1<n then 255 else 0))
def goodI (op a b:Int):Bool:=decide (0≤argN op) && fitN (argN op) a b
def bodyB (n:Int) (a b:Nat):List Nat:=(if 0<n then vb a else [])++(if 1<n then vb b else [])
def insB (op a b:Int):List Nat:=if goodI op a b=true then op.toNat::bodyB (argN op) a.toNat b.toNat else []
theorem qA6 {a b:Int} (h:goodI op a b=true):∃o x y:Nat,op=(o:Int)∧a=(x:Int)∧b=(y:Int)∧o<42∧x≤255∧y≤255∧0≤argN op∧(¬0<argN op→x=0)∧(¬1<argN op→y=0):=by
 unfold goodI fitN at h;simp only[Bool.and_eq_true,decide_eq_true_eq] at h;obtain⟨h0,h1,h2,h3,h4⟩:=h;have:=argN_op op h0;refine⟨op.toNat,a.toNat,b.toNat,by omega,by omega,by omega,by omega,?_,?_,h0,fun hn=> ?_,fun hn=> ?_⟩
 · split at h2<;>omega
 · split at h4<;>omega
 · rw[if_neg hn] at h2;omega
 · rw[if_neg hn] at h4;omega
theorem qBX {o x y:Nat} (h:goodI o x y=true):insB o x y=o::bodyB (argN o) x y:=by
 unfold insB;rw[if_pos h];simp
theorem qCc {a b:Int} (h:¬goodI op a b=true):insB op a b=[]:=by
 unfold insB;rw[if_neg h]
theorem qFQ (x:Nat) (h:x≤255):(vb x).length≤2:=qBK 1 x (by omega)
theorem qIQ (n:Int) (x y:Nat) (hx:x≤255) (hy:y≤255):(bodyB n x y).length≤4:=by
 have h1:=qFQ x hx;have h2:=qFQ y hy;unfold bodyB;split<;>split<;>simp<;>omega
theorem qJQ (op a b:Int):(insB op a b).length≤5:=by
 by_cases h:goodI op a b=true
 · obtain⟨o,x,y,rfl,rfl,rfl,_,hx,hy,_⟩:=qA6 h
   rw[qBX h];have:=qIQ (argN o) x y hx hy;simp
   omega
 · rw[qCc h];simp
theorem qJP {a b:Int} (h:goodI op a b=true):0<(insB op a b).length:=by
 obtain⟨o,x,y,rfl,rfl,rfl,ho,hx,hy,_⟩:=qA6 h;rw[qBX h];simp
def HasI (xs:List Nat):Prop:=∃(o x y:Nat) (rest:List Nat),goodI o x y=true∧xs=insB o x y++rest
def pt (x:List Nat):List Nat:=vb x.length++x
def pts (xss:List (List Nat)):List Nat:=(xss.map pt).flatten
def joinB (xss:List (List Nat)):List Nat:=vb xss.length++pts xss
theorem qFk (x:List Nat) (r:List (List Nat)):pts (x::r)=pt x++pts r:=by simp[pts]
theorem pts_app (a b:List (List Nat)):pts (a++b)=pts a++pts b:=by simp[pts]
theorem qI3 (a:List (List Nat)) (x:List Nat):pts (a++[x])=pts a++pt x:=by simp[pts]
theorem qCZ (x:List Nat):(pt x).length=(vb x.length).length+x.length:=by simp[pt]
theorem qFi (xss:List (List Nat)) (k:Nat) (h:k<xss.length):pts (xss.take (k+1))=pts (xss.take k)++pt (xss[k]?.getD []):=by
 rw[qAp h,qI3];simp[h]
theorem qI4 (xss:List (List Nat)) (k:Nat):(pts (xss.take k)).length≤(pts xss).length:=by
 conv=>rhs;rw[←List.take_append_drop k xss,pts_app,List.length_append]
 omega
theorem qFj (xss:List (List Nat)):xss.length≤(pts xss).length:=by
 induction xss with
 |nil=>simp
 |cons x r ih=>
  rw[qFk,List.length_append,qCZ,List.length_cons];have:=qGK x.length
  omega
theorem qHs (xss:List (List Nat)) (M:Nat) (hM:M<B64) (h:∀j,j<xss.length→(xss[j]?.getD []).length≤M):(pts xss).length≤xss.length*(10+M):=by
 induction xss with
 |nil=>simp[pts]
 |cons x r ih=>
  have h0:=h 0 (by simp);simp at h0;have h1:=ih fun j hj=>by have:=h (j+1) qK;simpa using this
  have h2:=qBK 9 x.length (by unfold B64 at hM;omega);rw[qFk,List.length_append,qCZ,List.length_cons,Nat.add_mul]
  omega
theorem qBW (xss:List (List Nat)):(joinB xss).length=(vb xss.length).length+(pts xss).length:=by simp[joinB]
theorem qDT (xss:List (List Nat)) (M:Nat) (hM:M<B64) (hn:xss.length<B64) (h:∀j,j<xss.length→(xss[j]?.getD []).length≤M):(joinB xss).length≤10+xss.length*(10+M):=by
 have h1:=qHs xss M hM h;have h2:=qBK 9 xss.length (by unfold B64 at hn;omega);rw[qBW]
 omega
def HasPart (rest:List Nat) (m j:Nat):Prop:=IsVar rest m j∧j+m≤rest.length
def Body (bs:List Nat) (n:Nat) (xss:List (List Nat)):Prop:=xss.length=n∧bs=pts xss
def IsJoin (xs:List Nat) (most:Int) (xss:List (List Nat)):Prop:=xs=joinB xss∧(xss.length:Int)≤most
def refB (k:Int):Bool:=k==2 || k==3 || k==4 || k==6 || k==7
def goodB (k n r:Int):Bool:=if k=1∨k=2∨k=3∨k=7 then n==0 else if k=4 then decide (0≤n∧n<r) else if k=5 then decide (0≤n∧n<4) else false
def subB (a b c d:Int):Bool:=(a==c && b==d) || c==8 || (refB a && refB c && (a==6 || c==7))
def joinK (a b c d:Int):Int:=if subB a b c d then c else if subB c d a b then a else if refB a && refB c then 7 else 8
def joinN (a b c d:Int):Int:=if subB a b c d then d else if subB c d a b then b else 0
theorem or128 (u:Nat):bits .or .u8 ((u:Int) % 256) 128=((u % 128+128:Nat):Int):=by
 have h:=u8_or_nat (u % 256) 128 (by omega) (by omega);have h3:(u % 256) ||| 128=u % 128+128:=by
  have e:u % 256=u % 128∨u % 256=128+u % 128:=by omega
  have j:128 ||| u % 128=128+u % 128:=nat_join 7 128 (u % 128) (by omega) (by omega);rcases e with e|e
  · rw[e,Nat.or_comm,j];omega
  · rw[e,←j,Nat.or_assoc,Nat.or_comm (u % 128),←Nat.or_assoc,Nat.or_self,j];omega
 rw[h3] at h;rw[←h]
 congr 1
theorem qBN (v:Nat) (w:World) (hv:v<B64):
 Calls Tryz.prog 87 #[.int .u64 (v:Nat)] w fun e w'=>∃u,e= .returned u∧w'.ownsRow w.heap.size 5 1 u (vb v).length (Bs (vb v))∧Below w.heap.size w w':=by
 have HV0:=hv
 go_enter Tryz.func87,Tryz.ntmps87
 go_wp2
 go_loopw [0,3] (fun x o wr=>∃(u:Nat) (pre:List Nat),x= .int .u64 (u:Nat)∧wr.ownsRow w.heap.size 5 1 o pre.length (Bs pre)∧vb v=pre++vb u∧u<B64∧Below w.heap.size w wr) (fun x _ _=>(intOf x).toNat)
 case atStart=>exact⟨v,[],rfl,World.ownsRow_nil _ _ _ _,by simp,hv,qAk _ _⟩
 case round=>
  obtain⟨u,pre,rfl,hown,hvb,hu,hbel⟩:=hrel;have HV:=qAg hvb;have HO:=qAg hown;have HU:=qAg hu;clear hvb hown hu hv;have hlen:pre.length+(vb u).length≤10:=by
   have h1:=qBK 9 v (by unfold B64 at HV0;omega);rw[HV.out] at h1;simpa using h1
  have hpos:=qGK u
  by_cases hlt:u<128
  · have h1:(decide ((128:Int)≤(u:Int)))=false:=by simp;omega
    go_wp2_with (at_builtin
                 refine qAt _ rfl (.tmp 14) (.tmp 17) rfl w.heap.size u3 pre.length pre rfl (HO.out.alloc _) (some ⟨wr.heap.size,0,none⟩) 1 1 [u] rfl rfl (·=wr.heap.size) (qFM wr _ u rfl) (by omega) (by have:=hbel.size;simp;omega) ?_;intro v1 w1 hown1 hg1 _)
    go_ret;refine⟨v1,rfl,?_,(hbel.alloc hbel.size _).grown hg1 (by have:=hbel.size;simp;omega) (fun k hk=>(HO.out.lt k hk).1)⟩;rw[HV.out,qCM u hlt];simpa using hown1
  · have h1:(decide ((128:Int)≤(u:Int)))=true:=by simp;omega
    go_wp2_with (at_builtin
                 refine qAt _ rfl (.tmp 6) (.tmp 10) rfl w.heap.size u3 pre.length pre rfl (HO.out.alloc _) (some ⟨wr.heap.size,0,none⟩) 1 1 [u % 128+128] rfl rfl (·=wr.heap.size) (qFM wr _ (u % 128+128) (or128 u)) (by omega) (by have:=hbel.size;simp;omega) ?_;intro v1 w1 hown1 hg1 _)
    go_roundw
    case rel=>
     refine⟨u / 128,pre++[u % 128+128],by simp,by simpa using hown1,?_,by have:=HU.out;omega,(hbel.alloc hbel.size _).grown hg1 (by have:=hbel.size;simp;omega) (fun k hk=>(HO.out.lt k hk).1)⟩;rw[HV.out,qEu u hlt];simp
    case measure=>simp[intOf];omega
theorem qBC (w:World) {ops:Array Oper} {o:Oper} {a:Act} {K:Act→World→Prop} {Q:Exit→Act→World→Prop} (hgd:o.guard=none) (s x:Operand)
 (ho:o.op= .call {callee:= .builtin .append,args:= #[s,x],argTypes:= #[62,62]})
 (base:Nat) (v:Value) (n:Nat) (xs:List Nat) (hs:a.eval s=v) (hown:w.ownsRow base 5 1 v n (Bs xs)) (A:Option Addr) (m c:Nat) (ys:List Nat) (hx:a.eval x= .slice A m c) (hm:ys.length=m)
 (S:Nat→Prop) (hy:Byt S w A ys) (hbig:n+m≤140737488355328) (hbase:base≤w.heap.size)
 (h:∀v' w',w'.ownsRow base 5 1 v' (n+m) (Bs (xs++ys))→w.grownBy w' v.ownBlock→(v'.ownBlock=v.ownBlock∨v'.ownBlock=some w.heap.size)→K (a.put o.dst v') w'):
 if Region.wanted o (yielded ops a.tmps)=true then Oper.wp Tryz.prog o a w K Q else E:=by
 have hw:Region.wanted o (yielded ops a.tmps)=true:=by simp[Region.wanted,hgd]
 rw[if_pos hw];obtain⟨v',w',hrun,h2,h3,h4⟩:=qB6 w base o.type v n xs hown A m c ys hm S hy hbig hbase;unfold Oper.wp execOp;simp only[ho,resolve,invoke,builtin,Sem.run_bind,Sem.run_pure,Result.andThen_ok,List.map_toArray,List.map_cons,List.map_nil,hs,hx,hrun];exact h v' w' h2 h3 h4
theorem qBV (s x:Operand) (t:TypeId) {d:Option Tmp} {ty:TypeId} {p:String} {af:Array Edge} {g:Option (Nat×Bool)} {y:Nat→Option Bool} {inst:Decidable (Region.wanted ⟨d,.call ⟨.builtin .append,#[s,x],#[t,t]⟩,ty,p,af,g⟩ y=true)} {W:Prop} 
 (h: @ite Prop (Region.wanted ⟨d,.call ⟨.builtin .append,#[s,x],#[t,t]⟩,ty,p,af,g⟩ y=true) inst W E): @ite Prop (Region.wanted ⟨d,.call ⟨.builtin .append,#[s,x],#[t,t]⟩,ty,p,af,g⟩ y=true) inst W E:=h
theorem qB5 (f:Nat) {d:Option Tmp} {ar:Array Operand} {at':Array TypeId} {ty:TypeId} {p:String} {af:Array Edge} {g:Option (Nat×Bool)} {y:Nat→Option Bool} {inst:Decidable (Region.wanted ⟨d,.call ⟨.value (.func f),ar,at'⟩,ty,p,af,g⟩ y=true)} {W:Prop} 
 (h: @ite Prop (Region.wanted ⟨d,.call ⟨.value (.func f),ar,at'⟩,ty,p,af,g⟩ y=true) inst W E): @ite Prop (Region.wanted ⟨d,.call ⟨.value (.func f),ar,at'⟩,ty,p,af,g⟩ y=true) inst W E:=h
theorem qAs {P:Program} {c:Code} {Q:Exit→Act→World→Prop} {a:Act} (h:∀W,W=w→c.wp P Q a W):c.wp P Q a w:=h w rfl
theorem qBB {W w1:World} (hb:Below W.heap.size W w1):(∀b o,b<W.heap.size→w1.cell? ⟨b,o,none⟩=W.cell? ⟨b,o,none⟩)∧(∀b o,b<W.heap.size→w1.frozen? ⟨b,o,none⟩=W.frozen? ⟨b,o,none⟩):=
 ⟨fun b o h=>hb.cell (p:=⟨b,o,none⟩) h,fun b o h=>hb.frozen (p:=⟨b,o,none⟩) h⟩
theorem qBg {P:Program} {F:Nat} {args:Array Value} {Q:Ending→World→Prop} (h:∀W,W=w→Calls P F args W Q):Calls P F args w Q:=h w rfl
theorem qBc (w:World) (t:TypeId) (cs:Array Value):Blk (w.alloc (.cells cs t)) w.heap.size t cs:=heap_alloc_new w _
theorem qBQ {b b':Nat} {xs:List Value} (h:w.ownsRow b 5 1 v n xs) (hb:b'≤b):w.ownsRow b' 5 1 v n xs:=by
 refine⟨h.1,?_⟩;rcases h.2 with h|⟨g',cap,cur,e,hb2,rest⟩
 · exact .inl h
 · exact .inr ⟨g',cap,cur,e,qA8 hb hb2,rest⟩
theorem qHK (w:World) (b:Nat):w.ownsRow b 5 1 (.slice none 0 0) 0 (Bs []):=⟨rfl,.inl ⟨rfl,rfl⟩⟩
def typB (k n:Int):List Nat:=vb k.toNat++vb n.toNat
theorem qCs (k n:Int) (hk:k≤9223372036854775807) (hn:n≤9223372036854775807):(typB k n).length≤20:=by
 have h1:=qBK 9 k.toNat qK;have h2:=qBK 9 n.toNat qK;simp[typB]
 omega
theorem qCg (n:Int) (w:World) (h: -9223372036854775808≤n∧n≤9223372036854775807):
 Calls Tryz.prog 107 #[.int .i64 n] w fun e w'=>∃u,e= .returned u∧w'.ownsRow w.heap.size 5 1 u (vb n.toNat).length (Bs (vb n.toNat))∧Below w.heap.size w w':=by
 by_cases h0:0≤n
 · obtain⟨m,rfl⟩:∃m:Nat,n=(m:Int):=⟨n.toNat,by omega⟩
   have hm:m<B64:=by unfold B64;omega
   go_enter Tryz.func107,Tryz.ntmps107
   go_wp2_with (first|(go_at_call 87;refine(qBN m _ hm).mono ?_;rintro e w1 ⟨u,rfl,hown,hb⟩))
   go_ret;exact⟨_,rfl,hown,hb⟩
 · go_enter Tryz.func107,Tryz.ntmps107
   go_wp2_with (first|(go_at_call 87;refine(qBN 0 _ qr).mono ?_;rintro e w1 ⟨u,rfl,hown,hb⟩))
   go_ret;have e:n.toNat=0:=by omega
   rw[e];exact⟨_,rfl,hown,hb⟩
theorem kput (k n:Int) (w:World) (hk: -9223372036854775808≤k∧k≤9223372036854775807) (hn: -9223372036854775808≤n∧n≤9223372036854775807):
 Calls Tryz.prog 89 #[.agg #[.int .i64 k,.int .i64 n]] w fun e w'=>∃u,e= .returned u∧w'.ownsRow w.heap.size 5 1 u (typB k n).length (Bs (typB k n))∧Below w.heap.size w w':=by
 have PK:=qAg (fun w=>qCg k w hk);have PN:=qAg (fun w=>qCg n w hn);have hl:(vb k.toNat).length+(vb n.toNat).length≤140737488355328:=by
  have:=qCs k n hk.2 hn.2;simp[typB] at this
  omega
 clear hk hn
 go_enter Tryz.func89,Tryz.ntmps89
 go_wp2_with fail
 refine qAs fun W hW=> ?_;refine qAe ?_;intro c0 c1;refine jM ?_;intro HB0;have hs:w.heap.size<W.heap.size:=by rw[hW];simp
 clear hW;have C1:=qAg c1
 go_region_law (first
  |(with_reducible refine qBV (.tmp 5) (.tmp 8) 62 ?_
    refine qBC _ rfl (.tmp 5) (.tmp 8) rfl W.heap.size u1 (vb k.toNat).length (vb k.toNat) rfl HO1.out A2 (vb n.toNat).length c2 (vb n.toNat) rfl rfl _ HY2.out hl HS2.out ?_;intro v3 w3 hown3 hg3 _;refine jm ?_;intro HO3 HB3;clear hown3 hg3)
  |(with_reducible refine qB5 107 ?_
    go_simp
    go_at_call 107
    with_reducible refine(PK.out _).mono ?_
    rintro e w1 ⟨u1,rfl,hown1,hb1⟩;have HP1:=qAg hown1;have HB1:=qAg (hb1.mono (qAi W.heap.size));have hcell1:w1.cell? ⟨w.heap.size,1,none⟩=some (.int .i64 n):=(hb1.cell (p:=⟨w.heap.size,1,none⟩) hs).trans C1.out;clear hown1 hb1)
  |(with_reducible refine qB5 107 ?_
    go_simp
    go_at_call 107
    with_reducible refine(PN.out _).mono ?_
    rintro e w2 ⟨u2,rfl,hown2,hb2⟩;obtain⟨A2,c2,rfl,-,-,-,hY2⟩:=qAu hown2;refine jI ?_;intro HY2 HB2 HO1 HS2;clear hown2 hY2 hb2))
 all_goals
  go_wp2_with fail
  go_ret;refine⟨_,rfl,?_,HB0.out.drew.trans (HB3.out.mono HB0.out.size)⟩;rw[show(typB k n).length=(vb k.toNat).length+(vb n.toNat).length by simp[typB]];exact qBQ HO3.out HB0.out.size
abbrev Ins:=Int×Int×Int
def i3 (t:Ins):List Value:=[.int .i64 t.1,.int .i64 t.2.1,.int .i64 t.2.2]
def I3:List Ins→List Value
 |[]=>[]
 |t::ts=>i3 t++I3 ts
def Iss (S:Nat→Prop) (w:World) (A:Option Addr) (ts:List Ins):Prop:=
 0<ts.length→∃a,A=some a∧S a.block∧∀j,j<ts.length→
  w.cell? (a.add (j*3))=some (.int .i64 (ts[j]?.getD (0,0,0)).1)∧w.cell? (a.add (j*3+1))=some (.int .i64 (ts[j]?.getD (0,0,0)).2.1)∧w.cell? (a.add (j*3+2))=some (.int .i64 (ts[j]?.getD (0,0,0)).2.2)
theorem Iss.nil (S:Nat→Prop) (w:World) (A:Option Addr):Iss S w A []:=fun h=>absurd h (by simp)
theorem Iss.keep {ts:List Ins} (h:Iss S w A ts) (hk:∀b,S b→w'.heap[b]? =w.heap[b]?):Iss S w' A ts:=fun hn=>by
 obtain⟨a,e,hs,hc⟩:=h hn;refine⟨a,e,hs,fun j hj=> ?_⟩;obtain⟨h0,h1,h2⟩:=hc j hj;exact⟨(qAy (hk _ zo)).trans h0,(qAy (hk _ zo)).trans h1,(qAy (hk _ zo)).trans h2⟩
theorem Iss.wide {ts:List Ins} (h:Iss S w A ts) (hk:∀b,S b→T b):Iss T w A ts:=fun hn=>by
 obtain⟨a,e,hs,hc⟩:=h hn;exact⟨a,e,hk _ hs,hc⟩
theorem Iss.below {ts:List Ins} (h:Iss (·<B) w A ts) (hb:Below B' w w') (hB:B≤B'):Iss (·<B) w' A ts:=h.keep fun b h1=>hb.block b (qAh h1 hB)
theorem Iss.at {ts:List Ins} (h:Iss S w A ts) (hk:k<ts.length):
 ∃a,A=some a∧S a.block∧w.cell? (a.add (k*3))=some (.int .i64 (ts[k]?.getD (0,0,0)).1)∧w.cell? (a.add (k*3+1))=some (.int .i64 (ts[k]?.getD (0,0,0)).2.1)∧w.cell? (a.add (k*3+2))=some (.int .i64 (ts[k]?.getD (0,0,0)).2.2):=by
 obtain⟨a,e,hs,hc⟩:=h (by omega);exact⟨a,e,hs,hc k hk⟩
def le:List Nat→Nat
 |[]=>0
 |x::xs=>x+256*le xs
def fb (v m:Nat):List Nat:=(List.range m).map fun j=>v / 256 ^ j % 256
theorem qB9 (v m:Nat):(fb v m).length=m:=by simp[fb]
theorem fb_succ (v m:Nat):fb v (m+1)=fb v m++[v / 256 ^ m % 256]:=by simp[fb,List.range_succ]
def wid (n:Int):Nat:=min n.toNat 8
theorem qIX (n:Int):wid n≤8:=by unfold wid;omega
theorem qHd (n:Int) (w:World):Calls Tryz.prog 111 #[.int .i64 n] w fun e w'=>e= .returned (.int .i64 (wid n:Nat))∧w=w':=by
 go_enter Tryz.func111,Tryz.ntmps111
 go_wp2
 all_goals
  go_ret;exact⟨qE0 (by unfold wid;omega),rfl⟩
def fz (v m i:Nat):List Nat:=(List.range m).map fun j=>if j<i then v / 256 ^ j % 256 else 0
theorem qID (v m i:Nat):(fz v m i).length=m:=by simp[fz]
theorem fz_all (v m:Nat):fz v m m=fb v m:=by
 unfold fz fb;refine List.map_congr_left fun j hj=> ?_;rw[if_pos (List.mem_range.1 hj)]
theorem fz_zero (v m:Nat):Bs (fz v m 0)=List.replicate m (.int .u8 0):=by
 unfold Bs fz;rw[List.eq_replicate_iff];refine⟨by simp,fun b hb=> ?_⟩;simp at hb;exact hb.2.symm
theorem fz_set (v m i:Nat):(Bs (fz v m i)).set i (.int .u8 ((v / 256 ^ i % 256:Nat):Int))=Bs (fz v m (i+1)):=by
 apply List.ext_getElem
 · simp[Bs,fz]
 · intro j h1 h2
   simp only[Bs,fz,List.getElem_set,List.getElem_map,List.getElem_range]
   by_cases hij:i=j
   · subst hij;simp
   · rw[if_neg hij]
     by_cases hj:j<i
     · rw[if_pos hj,if_pos (by omega)]
     · rw[if_neg hj,if_neg (by omega)]
theorem qIe (v k:Nat):(v:Int) / 2 ^ (8*k) % 256=((v / 256 ^ k % 256:Nat):Int):=by
 have:(256:Nat) ^ k=2 ^ (8*k):=by rw[Nat.pow_mul]
 rw[this];simp
theorem qCe (v:Nat) (n:Int) (w:World) (hv:v<B64):
 Calls Tryz.prog 93 #[.int .u64 (v:Nat),.int .i64 n] w fun e w'=>∃u,e= .returned u∧w'.ownsRow w.heap.size 5 1 u (wid n) (Bs (fb v (wid n)))∧Below w.heap.size w w':=by
 obtain⟨i0,hi0,hz0,hz1,hz2⟩:=info_parts qCr;have hw8:=qIX n;have HV:=qAg hv;clear hv
 go_enter Tryz.func93,Tryz.ntmps93
 go_wp2_with fail
 refine(qHd n w).mono ?_;rintro e w' ⟨rfl,rfl⟩;obtain⟨m,hm⟩:∃m,wid n=m:=⟨_,rfl⟩;rw[hm] at hw8⊢;have HM:=qAg hm;clear hm;have hby:i0.bytes*m≤281474976710656:=by rw[hz2];omega
 have hml:m≤maxLen:=by simp[maxLen];omega
 go_wp2_with (at_make
              refine wpList_make_full _ rfl (.tmp 8) (.tmp 8) 62 rfl w.heap.size 5 i0 (.int .u8 0) 1 Tryz.underlying62 hi0 hz0 hz1 .i64 .i64 m m m rfl rfl rfl rfl hby hml (qAi _) ?_;intro w1 hown1 hg1)
 have hown2:w1.ownsRow w.heap.size 5 1 (.slice (some ⟨w.heap.size,0,none⟩) m m) m (Bs (fz v m 0)):=by
  rw[fz_zero];have:=hown1;rw[Nat.mul_one] at this;have e:(madeCells (Value.int .u8 0).cells m).toList=List.replicate m (.int .u8 0):=toList_madeCells_one _ _;rw[e] at this;exact this
 have hb1:Below w.heap.size w w1:=(qAk _ w).grown hg1 (qAi _) (fun k hk=>by cases hk);clear hown1 hg1
 go_loopw [12] (fun i wr=>∃k:Nat,k≤m∧i= .int .i64 (k:Nat)∧wr.ownsRow w.heap.size 5 1 (.slice (some ⟨w.heap.size,0,none⟩) m m) m (Bs (fz v m k))∧Below w.heap.size w wr) (fun i _=>m-(intOf i).toNat)
 case atStart=>exact⟨0,qAq _,rfl,hown2,hb1⟩
 case round=>
  obtain⟨k,hk,rfl,hown,hbel⟩:=hrel;have HO:=qAg hown;clear hown2 hb1
  by_cases hlt:k<m
  · have hc:=hown.cellAt k (by omega)
    rw[qHB _ _ (by rw[qID];exact hlt)] at hc;have hf:=hown.frozenAt k;clear hown
    go_wp2
    have hst:=HO.out.stored k (.int .u8 ((v / 256 ^ k % 256:Nat):Int));rw[fz_set] at hst;rw[qIe v k];exact⟨⟨k+1,by omega,by simp,hst.1,hbel.setCell (p:=⟨w.heap.size,k,none⟩) (qAi _) _⟩,by simp[intOf];omega⟩
  · obtain rfl:k=m:=by omega
    clear hown
    go_wp2
    go_ret;refine⟨_,rfl,?_,hbel⟩;rw[HM.out,←fz_all];exact HO.out
abbrev Typ:=Int×Int
structure Fn where
 args:List Typ
 ret:Typ
 locs:List Typ
 code:List Ins
structure Imp where
 args:List Typ
 ret:Typ
structure Mod where
 recs:List (List Typ)
 funcs:List Fn
 imps:List Imp
 ints:List Nat
 texts:List (List Nat)
noncomputable def eqB {α:Type} (a b:α):Bool:= @decide (a=b) (Classical.propDecidable _)
theorem qFC {a b:α}:eqB a b=true↔a=b:=by
 unfold eqB;exact @decide_eq_true_iff _ (Classical.propDecidable _)
theorem qJj (a:α):eqB a a=true:=qFC.2 rfl
theorem qG2 {a b:α} (h:a≠b):eqB a b=false:=by
 cases e:eqB a b
 · rfl
 · exact absurd (qFC.1 e) h
def tB (t:Typ):List Nat:=typB t.1 t.2
def iB (t:Ins):List Nat:=insB t.1 t.2.1 t.2.2
def lB {α:Type} (f:α→List Nat) (xs:List α):List Nat:=vb xs.length++(xs.map f).flatten
def fnB (f:Fn):List Nat:=lB tB f.args++(tB f.ret++(lB tB f.locs++lB iB f.code))
def impB (i:Imp):List Nat:=lB tB i.args++tB i.ret
def numB (n:Nat):List Nat:=fb n 8
def partsB (m:Mod):List (List Nat):=[lB (lB tB) m.recs,lB fnB m.funcs,lB impB m.imps,lB numB m.ints,lB pt m.texts]
def modB (m:Mod):List Nat:=joinB (partsB m)
def goodT (r:Int) (t:Typ):Bool:=goodB t.1 t.2 r
def goodIn (t:Ins):Bool:=goodI t.1 t.2.1 t.2.2
def witB {α:Type} (lo hi:Int) (g:α→Bool) (xs:List α):Bool:=decide (lo≤(xs.length:Int)∧(xs.length:Int)≤hi) && xs.all g
def recOk (r:Int) (ts:List Typ):Bool:=witB 0 6 (goodT r) ts
def fnOk (r:Int) (f:Fn):Bool:=witB 0 4 (goodT r) f.args && goodT r f.ret && witB 0 (8-(f.args.length:Int)) (goodT r) f.locs && witB 1 64 goodIn f.code
def impOk (r:Int) (i:Imp):Bool:=witB 0 4 (goodT r) i.args && goodT r i.ret
def shortB (s:List Nat):Bool:=decide (s.length≤32)
def fitB (m:Mod):Bool:=witB 0 8 (recOk m.recs.length) m.recs && witB 1 8 (fnOk m.recs.length) m.funcs && witB 0 8 (impOk m.recs.length) m.imps && decide (m.ints.length≤16) && witB 0 16 shortB m.texts
theorem qBH {lo hi:Int} {g:α→Bool} :witB lo hi g xs=true↔(lo≤(xs.length:Int)∧(xs.length:Int)≤hi)∧∀x∈xs,g x=true:=by simp[witB]
def PF {α:Type} (f:α→List Nat) (g:α→Prop):Prop:=∀x y r s,g x→g y→f x++r=f y++s→x=y∧r=s
theorem PF.row {f:α→List Nat} {g:α→Prop} (h:PF f g):∀(xs ys:List α) (r s:List Nat),xs.length=ys.length→(∀x∈xs,g x)→(∀y∈ys,g y)→(xs.map f).flatten++r=(ys.map f).flatten++s→xs=ys∧r=s:=by
 intro xs
 induction xs with
 |nil=>
  intro ys r s hl _ _ e
  cases ys with
  |nil=>exact⟨rfl,by simpa using e⟩
  |cons y ys=>simp at hl
 |cons x xs ih=>
  intro ys r s hl hx hy e
  cases ys with
  |nil=>simp at hl
  |cons y ys=>
   simp only[List.map_cons,List.flatten_cons,List.append_assoc] at e;obtain⟨rfl,e2⟩:=h x y _ _ (hx x (by simp)) (hy y (by simp)) e;obtain⟨rfl,rfl⟩:=ih ys r s (by simpa using hl) (fun z hz=>hx z (by simp[hz])) (fun z hz=>hy z (by simp[hz])) e2;exact⟨rfl,rfl⟩
def HasN {α:Type} (f:α→List Nat) (g:α→Prop) (n:Nat) (xs:List Nat):Prop:=∃(ys:List α) (rest:List Nat),ys.length=n∧(∀y∈ys,g y)∧xs=(ys.map f).flatten++rest
def Has {α:Type} (f:α→List Nat) (g:α→Prop) (xs:List Nat):Prop:=∃(y:α) (rest:List Nat),g y∧xs=f y++rest
theorem qIC {t:Typ} (hr:r≤8) (h:goodT r t=true):∃a b:Nat,t=((a:Int),(b:Int))∧a≤8∧b≤255:=by
 obtain⟨k,n⟩:=t;simp only[goodT,goodB] at h;split at h
 · rename_i hk
   exact zW
 · split at h
   · exact zW
   · split at h
     · exact zW
     · cases h
theorem qCv {f:Fn} (h:fnOk r f=true):f.args.length≤4∧f.args.length+f.locs.length≤8∧1≤f.code.length∧f.code.length≤64∧(∀t∈f.args,goodT r t=true)∧goodT r f.ret=true∧(∀t∈f.locs,goodT r t=true)∧∀t∈f.code,goodIn t=true:=by
 simp only[fnOk,Bool.and_eq_true,qBH] at h;obtain⟨⟨⟨⟨h1,h2⟩,h3⟩,h4,h5⟩,h6,h7⟩:=h;exact⟨by omega,by omega,by omega,by omega,h2,h3,h5,h7⟩
theorem qDH {i:Imp} (h:impOk r i=true):i.args.length≤4∧(∀t∈i.args,goodT r t=true)∧goodT r i.ret=true:=by
 simp only[impOk,Bool.and_eq_true,qBH] at h;exact⟨by omega,h.1.2,h.2⟩
theorem qEf {ts:List Typ} (h:recOk r ts=true):ts.length≤6∧∀t∈ts,goodT r t=true:=by
 simp only[recOk,qBH] at h;exact⟨by omega,h.2⟩
theorem qBb (f:α→List Nat) (xs:List α) (M:Nat) (h:∀x∈xs,(f x).length≤M) (hl:xs.length<B64):(lB f xs).length≤10+xs.length*M:=by
 have h1:=qBK 9 xs.length (by unfold B64 at hl;simp;omega);have h2:∀zs:List α,(∀x∈zs,(f x).length≤M)→((zs.map f).flatten).length≤zs.length*M:=by
  intro zs
  induction zs with
  |nil=>simp
  |cons z zs ih=>
   intro hz;have e1:=hz z (by simp);have e2:=ih fun x hx=>hz x (by simp[hx]);simp only[List.map_cons,List.flatten_cons,List.length_append,List.length_cons,Nat.succ_mul]
   omega
 have h3:=h2 xs h;simp only[lB,List.length_append]
 omega
theorem qCi {t:Typ} (hr:r≤8) (h:goodT r t=true):(tB t).length≤4:=by
 obtain⟨a,b,rfl,ha,hb⟩:=qIC hr h;have h1:=qBK 1 a qK;have h2:=qBK 1 b qK;simp[tB,typB]
 omega
theorem qE9 (t:Ins):(iB t).length≤5:=qJQ _ _ _
theorem qBy {ts:List Typ} (hr:r≤8) (hl:ts.length≤8) (h:∀t∈ts,goodT r t=true):(lB tB ts).length≤42:=by
 have:=qBb tB ts 4 (fun t ht=>qCi hr (h t ht)) (by unfold B64;omega)
 omega
theorem qHS {f:Fn} (hr:r≤8) (h:fnOk r f=true):(fnB f).length≤500:=by
 obtain⟨a1,a2,a3,a4,a5,a6,a7,a8⟩:=qCv h;have h1:=qBy hr (by omega) a5;have h2:=qCi hr a6;have h3:=qBy hr (by omega) a7;have h4:=qBb iB f.code 5 (fun t _=>qE9 t) (by unfold B64;omega);simp only[fnB,List.length_append]
 omega
theorem qJS {f:Imp} (hr:r≤8) (h:impOk r f=true):(impB f).length≤50:=by
 obtain⟨a1,a2,a3⟩:=qDH h;have h1:=qBy hr (by omega) a2;have h2:=qCi hr a3;simp only[impB,List.length_append]
 omega
structure Fit (m:Mod):Prop where
 r8:(m.recs.length:Int)≤8
 recs:∀t∈m.recs,recOk m.recs.length t=true
 f1:1≤m.funcs.length
 f8:m.funcs.length≤8
 funcs:∀f∈m.funcs,fnOk m.recs.length f=true
 i8:m.imps.length≤8
 imps:∀f∈m.imps,impOk m.recs.length f=true
 n16:m.ints.length≤16
 t16:m.texts.length≤16
 texts:∀s∈m.texts,s.length≤32
theorem qA1 {m:Mod}:fitB m=true↔Fit m:=by
 simp only[fitB,Bool.and_eq_true,qBH,decide_eq_true_eq]
 constructor
 · rintro⟨⟨⟨⟨⟨h1,h2⟩,h3,h4⟩,h5,h6⟩,h7⟩,h8,h9⟩
   exact⟨h1.2,h2,by omega,by omega,h4,by omega,h6,h7,by omega,fun s hs=>by simpa[shortB] using h9 s hs⟩
 · rintro⟨h1,h2,h3,h4,h5,h6,h7,h8,h9,h10⟩
   exact⟨⟨⟨⟨⟨by omega,h2⟩,by omega,h5⟩,by omega,h7⟩,h8⟩,by omega,fun s hs=>by simpa[shortB] using h10 s hs⟩
theorem Fit.parts_len {m:Mod} (h:Fit m):∀j,j<(partsB m).length→((partsB m)[j]?.getD []).length≤5000:=by
 have hB:(64:Nat)<B64:=by unfold B64;omega
 have hr:=h.r8;have b0:=qBb (lB tB) m.recs 42 (fun x hx=>by have:=qEf (h.recs x hx);exact qBy h.r8 (by omega) this.2) (by omega);have b1:=qBb fnB m.funcs 500 (fun x hx=>qHS h.r8 (h.funcs x hx)) (by have:=h.f8;omega);have b2:=qBb impB m.imps 50 (fun x hx=>qJS h.r8 (h.imps x hx)) (by have:=h.i8;omega);have b3:=qBb numB m.ints 8 (fun x _=>by simp[numB,qB9]) (by have:=h.n16;omega);have b4:=qBb pt m.texts 42 (fun x hx=>by have h1:=h.texts x hx;have h2:=qBK 9 x.length qK;simp[pt];omega) (by have:=h.t16;omega);have:=h.f8;have:=h.i8;have:=h.n16;have:=h.t16;intro j hj
 match j,hj with
 |0,_=>simp[partsB];omega
 |1,_=>simp[partsB];omega
 |2,_=>simp[partsB];omega
 |3,_=>simp[partsB];omega
 |4,_=>simp[partsB];omega
 |j+5,hj=>exact absurd hj (by simp[partsB])
theorem Fit.len {m:Mod} (h:Fit m):(modB m).length≤30000:=by
 have:=qDT (partsB m) 5000 (by unfold B64;omega) (by simp[partsB];unfold B64;omega) h.parts_len;simp[partsB] at this;simp[modB,partsB]
 omega
structure Lay (α:Type) where
 k:Nat
 R:(Nat→Prop)→World→List Value→α→Prop
 len:∀{S w cs x},R S w cs x→cs.length=k
 keep:∀{S:Nat→Prop} {w w':World} {cs:List Value} {x:α},R S w cs x→(∀b,S b→w'.heap[b]? =w.heap[b]?)→R S w' cs x
 wide:∀{S T:Nat→Prop} {w:World} {cs:List Value} {x:α},R S w cs x→(∀b,S b→T b)→R T w cs x
 one:∀{S w cs x},R S w cs x→∀u∈cs,u.oneCell'=true
def Sq {α:Type} (L:Lay α) (S:Nat→Prop) (w:World) (A:Option Addr) (xs:List α):Prop:=
 0<xs.length→∃a,A=some a∧S a.block∧∀j x,xs[j]? =some x→∃cs,(∀i u,cs[i]? =some u→w.cell? (a.add (j*L.k+i))=some u)∧L.R S w cs x
theorem Sq.nil (L:Lay α) (S:Nat→Prop) (w:World) (A:Option Addr):Sq L S w A []:=fun h=>absurd h (by simp)
theorem Sq.keep {L:Lay α} (h:Sq L S w A xs) (hk:∀b,S b→w'.heap[b]? =w.heap[b]?):Sq L S w' A xs:=fun hn=>by
 obtain⟨a,e,hs,hc⟩:=h hn;refine⟨a,e,hs,fun j x hx=> ?_⟩;obtain⟨cs,h1,h2⟩:=hc j x hx;exact⟨cs,fun i u hu=>(qAy (hk _ zo)).trans (h1 i u hu),L.keep h2 hk⟩
theorem Sq.wide {L:Lay α} (h:Sq L S w A xs) (hk:∀b,S b→T b):Sq L T w A xs:=fun hn=>by
 obtain⟨a,e,hs,hc⟩:=h hn;refine⟨a,e,hk _ hs,fun j x hx=> ?_⟩;obtain⟨cs,h1,h2⟩:=hc j x hx;exact⟨cs,h1,L.wide h2 hk⟩
theorem Sq.below {L:Lay α} (h:Sq L (·<B) w A xs) (hb:Below B' w w') (hB:B≤B'):Sq L (·<B) w' A xs:=h.keep fun b h1=>hb.block b (qAh h1 hB)
theorem Sq.at {L:Lay α} (h:Sq L S w A xs) (hk:xs[k]? =some x):
 ∃a cs,A=some a∧S a.block∧(∀i u,cs[i]? =some u→w.cell? (a.add (k*L.k+i))=some u)∧L.R S w cs x:=by
 obtain⟨a,e,hs,hc⟩:=h (by have:=(qAj.1 hk).1;omega);obtain⟨cs,h1,h2⟩:=hc k x hk;exact⟨a,cs,e,hs,h1,h2⟩
def slL {α:Type} (L:Lay α):Lay (List α) where
 k:=1
 R S w cs xs:=∃A c,cs=[.slice A xs.length c]∧xs.length≤c∧c≤maxLen∧Sq L S w A xs
 len:=by rintro S w cs x ⟨A,c,rfl,_⟩;rfl
 keep:=by rintro S w w' cs x ⟨A,c,rfl,h1,h2,h3⟩ hk;exact⟨A,c,rfl,h1,h2,h3.keep hk⟩
 wide:=by rintro S T w cs x ⟨A,c,rfl,h1,h2,h3⟩ hk;exact⟨A,c,rfl,h1,h2,h3.wide hk⟩
 one:=by rintro S w cs x ⟨A,c,rfl,_⟩ u hu;simp at hu;subst hu;rfl
def I64 (n:Int):Prop:= -9223372036854775808≤n∧n≤9223372036854775807
def numL:Lay Nat where
 k:=1
 R _ _ cs n:=cs=[.int .u64 (n:Int)]∧n<B64
 len:=by rintro S w cs x ⟨rfl,_⟩;rfl
 keep:=by rintro S w w' cs x h _;exact h
 wide:=by rintro S T w cs x h _;exact h
 one:=by rintro S w cs x ⟨rfl,_⟩ u hu;simp at hu;subst hu;rfl
def Owns {α:Type} (L:Lay α) (ty base:Nat) (w:World) (v:Value) (xs:List α):Prop:=
 ∃css:List (List Value),css.length=xs.length∧w.ownsRow base ty L.k v xs.length css.flatten∧
  ∀(j:Nat) (x:α) (cs:List Value),xs[j]? =some x→css[j]? =some cs→L.R (fun b=>base≤b∧b<w.heap.size∧v.ownBlock≠some b) w cs x
theorem Owns.nil (L:Lay α) (ty base:Nat) (w:World):Owns L ty base w (.slice none 0 0) ([]:List α):=
 ⟨[],rfl,World.ownsRow_nil _ _ _ _,fun j x cs h=>by simp at h⟩
theorem qJc {css:List (List Value)} (hk:∀cs∈css,cs.length=k) {j:Nat} {cs:List Value} (hj:css[j]? =some cs) (i:Nat) (hi:i<k):css.flatten[j*k+i]? =cs[i]? :=by
 induction css generalizing j with
 |nil=>simp at hj
 |cons c css ih=>
  have hc:=hk c (by simp)
  cases j with
  |zero=>
   simp at hj;subst hj;rw[List.flatten_cons,List.getElem?_append_left (by omega)];simp
  |succ j=>
   rw[List.flatten_cons,List.getElem?_append_right (by rw[hc,Nat.succ_mul];omega),hc,show(j+1)*k+i-k=j*k+i by rw[Nat.succ_mul];omega];exact ih (fun x hx=>hk x (by simp[hx])) (by simpa using hj)
theorem Owns.slice {L:Lay α} (h:Owns L ty base w v xs):
 (slL L).R (fun b=>base≤b∧b<w.heap.size) w [v] xs:=by
 obtain⟨css,hl,hown,hR⟩:=h;have hk:∀cs∈css,cs.length=L.k:=fun cs hcs=>by
  obtain⟨j,hj⟩:=qBM.1 hcs;have hjl:j<xs.length:=by rw[←hl];exact(qAj.1 hj).1
  exact L.len (hR j _ cs (List.getElem?_eq_getElem hjl) hj)
 rcases hown.2 with⟨rfl,h0⟩|⟨g,cap,cur,rfl,hb,hg,hnc,hcm,_,_⟩
 · exact⟨none,0,by rw[h0],by omega,by simp[maxLen],fun hpos=>absurd hpos (by omega)⟩
 · refine⟨some ⟨g,0,none⟩,cap,rfl,hnc,hcm,fun _=>⟨⟨g,0,none⟩,rfl,⟨hb,(Array.getElem?_eq_some_iff.1 hg).1⟩,fun j x hx=> ?_⟩⟩
   have hjl:j<css.length:=by rw[hl];exact(qAj.1 hx).1
   have hcs:=List.getElem?_eq_getElem hjl;have hr:=hR j x _ hx hcs;refine⟨_,fun i u hu=> ?_,L.wide hr fun b hb=>⟨hb.1,hb.2.1⟩⟩;have hi:i<L.k:=by rw[←L.len hr];exact(qAj.1 hu).1
   exact hown.cells rfl (j*L.k+i) u (by rw[qJc hk hcs i hi];exact hu)
theorem Owns.lt {L:Lay α} (h:Owns L ty base w v xs):∀i,v.ownBlock=some i→base≤i∧i<w.heap.size:=by
 obtain⟨css,hl,hown,hR⟩:=h;exact fun i hi=>⟨(hown.lt i hi).1,(hown.lt i hi).2⟩
theorem Owns.kept {L:Lay α} (h:Owns L ty base w v xs) (hg:g<base) (ho:Only g w w'):Owns L ty base w' v xs:=by
 have hlt:=h.lt;obtain⟨css,hl,hown,hR⟩:=h;refine⟨css,hl,hown.kept (row:=some g) ho (.inr fun e=>by have:=hlt g e;omega),fun j x cs h1 h2=> ?_⟩;refine L.wide (L.keep (hR j x cs h1 h2) fun b hb=>ho.block b hb.2.1 (fun e=>by injection e;omega)) fun b hb=>⟨hb.1,qAh hb.2.1 ho.size,hb.2.2⟩
def vOne:List Value→Value
 |[v]=>v
 |_=> .nilFunc
def vAgg (cs:List Value):Value:= .agg cs.toArray
def Tells (b:Bool) (w:World) (e:Ending) (w':World):Prop:=e= .returned (.bool b)∧Below w.heap.size w w'
theorem qEO {g:α→Bool} (h:(xs.take k).all g=true) (hx:xs[k]? =some x) (hg:g x=true):(xs.take (k+1)).all g=true:=by
 obtain⟨hk,rfl⟩:=qAj.1 hx;rw[qAp hk,List.all_append,h];simp[hg]
theorem qBI {a:Addr} {K:Nat} {o:Option Value} (hK:K=1) (h:w.cell? (a.add (k*K+0))=o):w.cell? (a.add k)=o:=by
 subst hK;simpa using h
theorem qHf {ys:List α} {y:α} (h:xs.take k=ys.take k) (hx:xs[k]? =some x) (hy:ys[k]? =some y) (e:x=y):xs.take (k+1)=ys.take (k+1):=by
 obtain⟨hk,rfl⟩:=qAj.1 hx;obtain⟨hk2,rfl⟩:=qAj.1 hy;rw[qAp hk,qAp hk2,h,e]
theorem get_ne {ys:List α} {y:α} (hx:xs[k]? =some x) (hy:ys[k]? =some y) (e:¬x=y):xs≠ys:=by
 rintro rfl;rw[hx] at hy;exact e (Option.some.inj hy)
theorem qAm (a:Addr) (m i:Nat) (hi:0<i):a.add (m+i)=⟨(a.add m).block,(a.add m).off+i,none⟩:=by
 rw[←qCG];generalize a.add m=x;have:i≠0:=by omega
 simp[Addr.add,this]
theorem qF6 (w:World) (t:TypeId) (cs:List Value):∀j u,cs[j]? =some u→(w.alloc (.cells cs.toArray t)).cell? ((⟨w.heap.size,0,none⟩:Addr).add j)=some u:=fun j u hu=>by
 have e:(⟨w.heap.size,0,none⟩:Addr).add j=⟨w.heap.size,j,none⟩:=by unfold Addr.add;split<;>simp_all
 rw[e,World.cell?_alloc_mark];simpa using hu
theorem qCT {row:Option Nat} (hg:w.grownBy w' row) (hB:B≤w.heap.size) (hr:∀i,row=some i→B≤i):Below B w w':=(qAk B w).grown hg hB hr
theorem qBm (w:World) (q:Nat):Below w.heap.size w (w.drewN q):=⟨rfl,rfl,rfl,qAi _,fun _ _=>rfl⟩
theorem qCE {w1:World} (h:Below B w w1) (q:Nat) (hB:B≤w1.heap.size):Below B w (w1.drewN q):=h.trans ((qBm w1 q).mono hB)
end Go.Proofs.YtelceoecekfamaaGreat
