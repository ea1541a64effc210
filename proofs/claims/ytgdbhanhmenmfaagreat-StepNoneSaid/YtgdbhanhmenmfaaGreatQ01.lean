/-
W0 Wds On0 Opn Math Ow0 Ly Bk0 Raw Loe Jf Kwo
-/
import Derived.Test.YtgdbhanhmenmfaaGreatProg
import Derived.Test.YtgdbhanhmenmfaaGreatRows
import Derived.WalkKit
import Derived.WalkSpells
import Derived.WalkLawsBesides
import Derived.Maps.AppendAt
import Derived.Deep.Draws
import Derived.Lib.Hide
import Derived.OpenShut
import Derived.Laws.BitsAllLaws
import Derived.Laws.Bits64
import Derived.ProofKit
import Derived.ShutString
import Derived.Deep.Slices
import Derived.Deep.RegionLaw
set_option linter.unusedSimpArgs false
set_option linter.unusedVariables false
set_option maxRecDepth 100000
namespace Go.Proofs.YtgdbhanhmenmfaaGreat
open Go.RowKit
variable {A:Option Addr}{B:Nat}{S:Nat→Prop}{a b:World}{base:Nat}{c cs:Array Value}{css:List (List Value)}{g i k n:Nat}{o:Oper}{ops:Array Oper}{rest:List Oper}{t:TypeId}{ty:Nat}{v:Value}{w w':World}{α:Type}{x:α}{xs:List Nat}
theorem qBK {p:Prop} (h:p):Hid p:=Lib.hid h
theorem qBL (n:Nat):n≤n:=Nat.le_refl n
theorem qBM {α:Type _} {a:α} {l:List α}:l[i]? =some a↔∃h:i<l.length,l[i]=a:=List.getElem?_eq_some_iff
theorem qBN {m:Nat} :n<m→m≤k→n<k:=Nat.lt_of_lt_of_le
theorem qBO (B:Nat) (w:World):Below B w w:=Below.refl B w
theorem qBP (w:World) (a:Addr) (u:Value) (k:Nat) (h:k≠a.block):(w.setCell a u).heap[k]? =w.heap[k]?:=Below.heap_setCell w a u k h
theorem qBQ {α:Type _} {l:List α} {a:α} (e:l[i]? =some a):a∈l:=List.mem_of_getElem? e
theorem qBR (w:World) (a:Addr) {u:Value} (h:w.cell? a=some u):a.block<w.heap.size:=World.block_lt_of_cell? w a h
theorem qBS {α:Type _} {l:List α} (h:l.length≤i):List.take i l=l:=List.take_of_length_le h
theorem qBU (n:Nat):0≤n:=Nat.zero_le n
theorem qBW {α:Type _} {l:List α} (h:i<l.length):List.take (i+1) l=List.take i l++[l[i]]:=List.take_succ_eq_append_getElem h
theorem qBX (w:World) (o:Obj) (k:Nat) (h:k<w.heap.size):(w.alloc o).heap[k]? =w.heap[k]?:=Below.heap_alloc w o k h
theorem qBY {α:Type _} {l:List α}:l.length=0→l=[]:=List.eq_nil_of_length_eq_zero
theorem qBZ {m:Nat} :n≤m→m≤k→n≤k:=Nat.le_trans
theorem qBd {a:Addr} (h:w'.heap[a.block]? =w.heap[a.block]?):w'.cell? a=w.cell? a:=World.cell?_of_block h
theorem qBi (n:Int):IntKind.i64.wrap n=(n+9223372036854775808)%18446744073709551616-9223372036854775808:=IntKind.wrap_i64 n
theorem qBk {α:Type _} {a:α} {l:List α}:a∈l↔∃i:Nat,l[i]? =some a:=List.mem_iff_getElem?
theorem qB {P:Prop} (h:P:=by
 have hrow:∀i,u5.ownBlock=some i→w.heap.size≤i:=fun i hi=>(HO.out.lt i hi).1;have hO3:Only g w w2:=qJo (qBb HY.out (qBb HO1.out (qBh _))) HG2.out hrow;have hB3:Below w.heap.size w1 w2:=((qBO _ _).alloc (by omega) _).trans (qDy HG2.out (by simp;omega) hrow);obtain⟨t',ht',hu'⟩:=HU.out.step HPF.out (by rw[HX.out];exact hlt) HXX.out;exact⟨⟨k+1,by omega,by simp,xs++[x],by simp[HX.out],HO2.out,hO3,t',ht'.low hB3 hg,hu'⟩,by simp[intOf];omega⟩):P:=h
theorem qD {P:Prop} (h:P:=by rw[qBn];exact hab):P:=h
theorem qG {P:Prop} (h:P:=by
 refine⟨⟨k+1,by omega,by simp,⟨q++y,?_,?_,?_⟩,Hb2.out.grown HG4.out (by omega) (fun i hi=>(HO2.out.lt i hi).1)⟩,by simp[intOf];omega⟩
 · rw[HF.out,HQ.out,HY.out]
   simp[List.append_assoc]
 · simp[List.length_append]
   omega
 · rw[List.length_append]
   exact HO4.out):P:=h
theorem qK {P:Prop} (h:P:=by simp;omega):P:=h
theorem qO {P:Prop} (h:P:=by
 refine⟨0,qBU _,rfl,⟨_,rfl,?_,?_⟩,HB1.out⟩
 · have:=HN.out
   simp only[lB,List.length_append,HL.out] at this;simp
   omega
 · simpa using HO1.out):P:=h
theorem qU {P:Prop} (h:P:=by rw[HL.out];exact hlt):P:=h
theorem qV {P:Prop} (h:P:=by refine⟨⟨k+1,by omega,by simp,qOl HA.out HX.out HG.out,Hb2.out⟩,by simp[intOf];omega⟩):P:=h
theorem qa {P:Prop} (h:P:=by rw[HL.out];exact qBL _):P:=h
theorem qe {P:Prop} (h:P:=by refine⟨⟨k+1,by omega,by simp,qOo HA.out HX.out HG.out,Hb2.out⟩,by simp[intOf];omega⟩):P:=h
theorem qi {P:Prop} (h:P:=by repeat(first|with_reducible exact rfl|(with_reducible refine(qBP _ _ _ _ ?_).trans ?_;exact hne))):P:=h
theorem qj {P:Prop} (h:P:=by unfold B64;omega):P:=h
theorem qm {P:Prop} (h:P:=by
 have e1:=h2.cells rfl (k*4+i) ((css[k]'(by omega))[i]'(by omega)) (by rw[qCf hk4 e i hi];exact List.getElem?_eq_getElem _);rw[add_zero] at e1;have e2:=hcs i (cs[i]'(by omega)) (List.getElem?_eq_getElem _);rw[e1] at e2;rw[List.getElem?_eq_getElem (show i<(css[k]'(by omega)).length by omega),List.getElem?_eq_getElem (show i<cs.length by omega)];exact e2):P:=h
theorem qp {P:Prop} (h:P:=by decide):P:=h
theorem qr {P:Prop} (h:P:=by rw[q.tgm];decide):P:=h
theorem qt {P:Prop} (h:P:=by exact⟨none,0,by rw[h0],by omega,by simp[maxLen],fun hpos=>absurd hpos (by omega)⟩):P:=h
theorem qu {P:Prop} (h:P:=by have:=A0.out;rw[hra] at this;exact this):P:=h
theorem qy {P:Prop} (h:P:=by simpa using h):P:=h
theorem q7 {P:Prop} (h:P:=by show w.heap.size<_;omega):P:=h
theorem q9 {P:Prop} (h:P:=by rw[HX.out];omega):P:=h
theorem zA {P:Prop} (h:P:=by simp<;>omega):P:=h
theorem zB {P:Prop} (h:P:=by show Below _ _ _;first|exact(qBe V _).trans (hb4.mono (by simp))|exact(qBe V _).drew.trans (hb4.mono (by simp))):P:=h
theorem zD {P:Prop} (h:P:=by
 have HSN:∀V i u,Below w.heap.size w V→Below w.heap.size w (V.setCell ⟨w.heap.size+1,i,none⟩ u):=fun V i u hV=>hV.setCell (show w.heap.size≤w.heap.size+1 by omega) u
 repeat(first|with_reducible exact hb|with_reducible refine HSN _ _ _ ?_)):P:=h
theorem zE {P:Prop} (h:P:=by
 rcases hown.2 with⟨rfl,rfl⟩|⟨g,cap,cur,rfl,_,_,hnc,_⟩
 · simp[Builtin.append_,ht,sizeOf,typeInfo,hi0,Builtin.lenOf,Builtin.firstCells]
 · simp[Builtin.append_,ht,sizeOf,typeInfo,hi0,Builtin.lenOf,Builtin.firstCells,hnc,storeCells]):P:=h
theorem zF {P:Prop} (h:P:=by show w.heap.size+1<_;omega):P:=h
theorem zI {P:Prop} (h:P:=by have:=hb1.size;simp at this;omega):P:=h
theorem zJ {P:Prop} (h:P:=by have:=C0.out;rw[hrc] at this;exact this):P:=h
theorem zL {P:Prop} (h:P:=by
 have hi:=(qBM.1 hu).1;rw[←ht,List.getElem?_take_of_lt (by omega)] at hu;simpa using hu):P:=h
theorem zM {P:Prop} (h:P:=by simp only[maxLen];omega):P:=h
theorem zN {P:Prop} (h:P:=by simp[hx]):P:=h
theorem zQ {P:Prop} (h:P:=by simp[Op.operands]):P:=h
theorem zS {P:Prop} (h:P:=by rw[qBn];exact hbb):P:=h
theorem zV {P:Prop} (h:P:=by have:=S1.out;rw[h1] at this;exact this):P:=h
theorem zW {P:Prop} (h:P:=by
 by_cases e:k=p
 · subst e
   rw[List.getElem?_set_self (by rw[h.lenw,←hll];exact hlk)] at hp
   cases hp
 · rw[List.getElem?_set_ne e] at hp⊢
   exact h.still p hp):P:=h
theorem zb {P:Prop} (h:P:=by exact bodyPost_ret (v:= .tuple #[.agg #[.slice none 0 0,.slice none 0 0,.slice none 0 0,.slice none 0 0,.slice none 0 0],.int .i64 2]) qX rfl ⟨(HE4.out).trans ((((((qBO _ _).setCell (p:=⟨w.heap.size,0,none⟩) (qBL _) _).setCell (p:=⟨w.heap.size,1,none⟩) (qBL _) _).setCell (p:=⟨w.heap.size,2,none⟩) (qBL _) _).setCell (p:=⟨w.heap.size,3,none⟩) (qBL _) _).setCell (p:=⟨w.heap.size,4,none⟩) (qBL _) _),.inr ⟨HNO.out,rfl⟩⟩):P:=h
theorem zc {P:Prop} (h:P:=by exact bodyPost_ret (v:= .tuple #[.agg #[.slice none 0 0,.slice none 0 0,.slice none 0 0,.slice none 0 0,.slice none 0 0],.int .i64 2]) qX rfl ⟨(HE5.out).trans ((((((qBO _ _).setCell (p:=⟨w.heap.size,0,none⟩) (qBL _) _).setCell (p:=⟨w.heap.size,1,none⟩) (qBL _) _).setCell (p:=⟨w.heap.size,2,none⟩) (qBL _) _).setCell (p:=⟨w.heap.size,3,none⟩) (qBL _) _).setCell (p:=⟨w.heap.size,4,none⟩) (qBL _) _),.inr ⟨HNO.out,rfl⟩⟩):P:=h
theorem zd {P:Prop} (h:P:=by exact bodyPost_ret (v:= .tuple #[.agg #[.slice none 0 0,.slice none 0 0,.slice none 0 0,.slice none 0 0,.slice none 0 0],.int .i64 2]) qX rfl ⟨(HE1.out).trans ((((((qBO _ _).setCell (p:=⟨w.heap.size,0,none⟩) (qBL _) _).setCell (p:=⟨w.heap.size,1,none⟩) (qBL _) _).setCell (p:=⟨w.heap.size,2,none⟩) (qBL _) _).setCell (p:=⟨w.heap.size,3,none⟩) (qBL _) _).setCell (p:=⟨w.heap.size,4,none⟩) (qBL _) _),.inr ⟨HNO.out,rfl⟩⟩):P:=h
theorem ze {P:Prop} (h:P:=by exact bodyPost_ret (v:= .tuple #[.agg #[.slice none 0 0,.slice none 0 0,.slice none 0 0,.slice none 0 0,.slice none 0 0],.int .i64 2]) qX rfl ⟨(HE3.out).trans ((((((qBO _ _).setCell (p:=⟨w.heap.size,0,none⟩) (qBL _) _).setCell (p:=⟨w.heap.size,1,none⟩) (qBL _) _).setCell (p:=⟨w.heap.size,2,none⟩) (qBL _) _).setCell (p:=⟨w.heap.size,3,none⟩) (qBL _) _).setCell (p:=⟨w.heap.size,4,none⟩) (qBL _) _),.inr ⟨HNO.out,rfl⟩⟩):P:=h
theorem zf {P:Prop} (h:P:=by exact bodyPost_ret (v:= .tuple #[.agg #[.slice none 0 0,.slice none 0 0,.slice none 0 0,.slice none 0 0,.slice none 0 0],.int .i64 2]) qX rfl ⟨(HE2.out).trans ((((((qBO _ _).setCell (p:=⟨w.heap.size,0,none⟩) (qBL _) _).setCell (p:=⟨w.heap.size,1,none⟩) (qBL _) _).setCell (p:=⟨w.heap.size,2,none⟩) (qBL _) _).setCell (p:=⟨w.heap.size,3,none⟩) (qBL _) _).setCell (p:=⟨w.heap.size,4,none⟩) (qBL _) _),.inr ⟨HNO.out,rfl⟩⟩):P:=h
theorem zk {P:Prop} (h:P:=by rw[qBn];exact hb):P:=h
theorem zl {P:Prop} (h:P:=by
 have hi:i<L.k:=by rw[←L.len hr];exact(qBM.1 hu).1
 exact hown.cells rfl (j*L.k+i) u (by rw[qCf hk hcs i hi];exact hu)):P:=h
theorem zm {P:Prop} (h:P:=by
 simp at h;exact⟨k.toNat,n.toNat,by ext<;>simp<;>omega,by omega,by omega⟩):P:=h
theorem zn {P:Prop} (h:P:=by exact .inr ⟨g',cap,cur,e,by have:=HBV.out.size;simp at hb2;omega,rest⟩):P:=h
theorem zo {P:Prop} (h:P:=by rw[List.length_set];exact qDM h.wai (hz q (hne q 2 h.zq (by omega)))):P:=h
theorem zr {P:Prop} (h:P:=by
 obtain rfl:cs=[]:=qBY hl;exact Part.nil _ _ _):P:=h
theorem zt {P:Prop} (h:P:=by have:=S2.out;rw[h2] at this;exact this):P:=h
theorem zu {P:Prop} (h:P:=by rw[List.length_set];exact(hz g (hne g 0 h.zg (by omega))).trans h.box):P:=h
theorem zv {P:Prop} (h:P:=by rw[qBn];exact hs):P:=h
theorem zy {P:Prop} (h:P:=by rw[HX.out];omega):P:=h
theorem zz {P:Prop} (h:P:=by rw[←HL.out,←HM.out,e]):P:=h
theorem z7 {P Q:Prop} (q:Q) (h:Q→P:=by
 have HS4:Hid (∀v,Below w3.heap.size w3 v→v.cell? ⟨w.heap.size,0,none⟩=some (.slice A0 n0 d0)∧v.cell? ⟨w.heap.size,1,none⟩=some (.slice A1 n1 d1)∧v.cell? ⟨w.heap.size,2,none⟩=some (.slice A2 n2 d2)∧v.cell? ⟨w.heap.size,3,none⟩=some (.slice A3 n3 d3)∧v.cell? ⟨w.heap.size,4,none⟩=some (.slice A4 n4 d4)∧v.cell? ⟨w.heap.size+1,1,none⟩=some (.slice O no co)∧v.cell? ⟨w.heap.size+1,2,none⟩=some (.slice H nh ch)):=fun v hb=>⟨(HCM.out v (HB33.out v hb)).1,(HCM.out v (HB33.out v hb)).2.1,(HCM.out v (HB33.out v hb)).2.2.1,(HCM.out v (HB33.out v hb)).2.2.2.1,(HCM.out v (HB33.out v hb)).2.2.2.2,(HCS.out v (HB33.out v hb)).2.1,(HCS.out v (HB33.out v hb)).2.2.1⟩;intro kz;revert HS4;exact kz):P:=h q
theorem z9 {P Q:Prop} (q:Q) (h:Q→P:=by
 obtain⟨hBW,hsW,hC5,hC7⟩:=HWW.out W (by rw[hW]);have HBW:=qBK hBW;have HBB:Hid (∀v,Below W.heap.size W v→Below w.heap.size w v):=fun v hb=>HBW.out.trans (hb.mono HBW.out.size);have HCM:Hid (∀v,Below W.heap.size W v→C5 w.heap.size (.slice A0 n0 d0) (.slice A1 n1 d1) (.slice A2 n2 d2) (.slice A3 n3 d3) (.slice A4 n4 d4) v):=fun v hb=>hC5.below hb (by omega);have HCS:Hid (∀v,Below W.heap.size W v→C7 (w.heap.size+1) (.slice F nf cf) (.slice O no co) (.slice H nh ch) (.int .i64 s.quota) (.int .i64 s.used) (.int .i64 s.fin) (.int .u64 (s.val:Int)) v):=fun v hb=>hC7.below hb hsW;intro kz;revert hBW hsW hC5 hC7 HBW HBB HCM HCS;exact kz):P:=h q
theorem jA {P Q:Prop} (q:Q) (h:Q→P:=by
 obtain⟨x,hx⟩:∃x,xs[k]? =some x:=⟨xs[k]'qU,List.getElem?_eq_getElem _⟩;have hmem:x∈xs:=qBQ hx;intro kz;revert x hx hmem;exact kz):P:=h q
theorem jB {P Q:Prop} (q:Q) (h:Q→P:=by
 have HS0:Hid (Gst w g w1.heap.size 0 0 W0):=by show Gst w g w1.heap.size 0 0 W0;rw[hW0];exact Gst.new HR1.out HO1.out hg
 have HG0':Hid (Good W0 g ys):=by show Good W0 g ys;rw[hW0];exact HG1.out.alloc _
 have hlt:w.heap.size<w1.heap.size:=HR1.out.lt;intro kz;revert HS0 HG0' hlt;exact kz):P:=h q
theorem jC {P Q:Prop} (q:Q) (h:Q→P:=by
 obtain⟨z0,z1,z2⟩:=HPV.out W (qBO _ _);have HMV:Hid (∀v,Below W.heap.size W v→C5 PM (.slice A0 n0 d0) (.slice (some a) n1 d1) (.slice A2 n2 d2) (.slice A3 n3 d3) (.slice A4 n4 d4) v):=fun v hb=>⟨qBt HM.out.1 (HBB.out v hb),qBt HM.out.2.1 (HBB.out v hb),qBt HM.out.2.2.1 (HBB.out v hb),qBt HM.out.2.2.2.1 (HBB.out v hb),qBt HM.out.2.2.2.2 (HBB.out v hb)⟩;have HFV:Hid (∀v,Below W.heap.size W v→v.cell? (a.add (j*5))=some (.slice Q0 na c0)∧v.cell? ⟨(a.add (j*5)).block,(a.add (j*5)).off+1,none⟩=some (.int .i64 rt1)∧v.cell? ⟨(a.add (j*5)).block,(a.add (j*5)).off+2,none⟩=some (.int .i64 rt2)∧v.cell? ⟨(a.add (j*5)).block,(a.add (j*5)).off+3,none⟩=some (.slice Q1 nl c1)∧v.cell? ⟨(a.add (j*5)).block,(a.add (j*5)).off+4,none⟩=some (.slice Q2 nc c2)):=fun v hb=>⟨qBt HFC.out.1 (HBB.out v hb),qBt HFC.out.2.1 (HBB.out v hb),qBt HFC.out.2.2.1 (HBB.out v hb),qBt HFC.out.2.2.2.1 (HBB.out v hb),qBt HFC.out.2.2.2.2 (HBB.out v hb)⟩;intro kz;revert z0 z1 z2 HMV HFV;exact kz):P:=h q
theorem jD {P Q:Prop} (q:Q) (h:Q→P:=by
 obtain⟨hBW,hsW,hC5,hC7⟩:=HWW.out W (by rw[hW]);have HBW:=qBK hBW;have HBB:Hid (∀v,Below W.heap.size W v→Below w.heap.size w v):=fun v hb=>HBW.out.trans (hb.mono HBW.out.size);have HCM:Hid (∀v,Below W.heap.size W v→C5 w.heap.size (.slice A0 n0 d0) (.slice A1 n1 d1) (.slice A2 n2 d2) (.slice A3 n3 d3) (.slice A4 n4 d4) v):=fun v hb=>hC5.below hb (by omega);intro kz;revert hBW hsW hC5 hC7 HBW HBB HCM;exact kz):P:=h q
theorem jE {P Q:Prop} (q:Q) (h:Q→P:=by
 have HB33:Hid (∀v,Below w3.heap.size w3 v→Below W.heap.size W v):=fun v hb=>HB3.out.trans (hb.mono HB3.out.size);have CHc:Hid (∀v,Below w3.heap.size w3 v→Calls Tryz.prog 52 #[.slice H nh ch,.func (.func 53) #[] #[]] v fun e w'=>e= .returned (.bool (s.hn.any fun h=> !handB h))∧Below v.heap.size v w'):=fun v hb=>qEf H nh ch s.hn (fun h=> !handB h) v HNH.out (HSq.out v (HBB.out _ (HB33.out v hb))).2.2.1 b3 fun w1 cs x _ _ hr=>qDh x w1 cs hr;intro kz;revert HB33 CHc;exact kz):P:=h q
theorem jF {P Q:Prop} (q:Q) (h:Q→P:=by
 have HG1:=qBK hg1;have HR1:=qBK (qBp ho1 (heap_alloc_new w (.cells #[.int .i64 0,.int .i64 0,.int .i64 0] 65)) hgw);have HO1:=qBK (qBb (qBh _) ho1);intro kz;revert HG1 HR1 HO1;exact kz):P:=h q
theorem jG {P Q:Prop} (q:Q) (h:Q→P:=by
 obtain⟨x,hx⟩:∃x,xs[k]? =some x:=⟨xs[k]'qU,List.getElem?_eq_getElem _⟩;intro kz;revert x hx;exact kz):P:=h q
theorem jH {P Q:Prop} (q:Q) (h:Q→P:=by
 have hg:=h.lt;have HG:=qBK h;have ho:o<256:=hb o (by simp);have Hb:=qBK hb;have HY:Hid (∀x∈ys,x<256):=fun x hx=>hb x zN;have AR:=qBK (fun w=>qDB o w);intro kz;revert hg HG ho Hb HY AR;exact kz):P:=h q
theorem jJ {P Q:Prop} (q:Q) (h:Q→P:=by
 have HBB:Hid (∀v,Below W.heap.size W v→Below w.heap.size w v):=fun v hb=>HBW.out.trans (hb.mono HBW.out.size);have HCV:Hid (∀v,Below W.heap.size W v→C4 w.heap.size (.int .i64 (j:Int)) (.int .i64 f.pc) (.slice P0 xl e0) (.slice P1 xs e1) v):=fun v hb=>HC4.out.below hb hsW;have HPV:Hid (∀v,Below W.heap.size W v→v.cell? ⟨PL,0,none⟩=some (.slice D n c)∧v.cell? ⟨PF,0,none⟩=some (.slice (some aF) nf cf)∧v.cell? ⟨PH,0,none⟩=some (.func (.func 90) #[] #[.pointer (some hp)])):=fun v hb=>⟨qBt HPL.out (HBB.out v hb),qBt HPF.out (HBB.out v hb),qBt HPH.out (HBB.out v hb)⟩;intro kz;revert HBB HCV HPV;exact kz):P:=h q
theorem jK {P Q:Prop} (q:Q) (h:Q→P:=by
 have n0:=hN.cell 0;have m0:=hN.frozen 0;have n1:=hN.cell 1;have m1:=hN.frozen 1;have n2:=hN.cell 2;have m2:=hN.frozen 2;have n3:=hN.cell 3;have m3:=hN.frozen 3;have n4:=hN.cell 4;have m4:=hN.frozen 4;intro kz;revert n0 m0 n1 m1 n2 m2 n3 m3 n4 m4;exact kz):P:=h q
theorem jL {P Q:Prop} (q:Q) (h:Q→P:=by
 have HBB:Hid (∀v,Below W.heap.size W v→Below w.heap.size w v):=fun v hb=>HBW.out.trans (hb.mono HBW.out.size);intro kz;revert HBB;exact kz):P:=h q
theorem jM {P Q:Prop} (q:Q) (h:Q→P:=by
 have HS0:Hid (Gst w g w1.heap.size 0 0 W0):=by show Gst w g w1.heap.size 0 0 W0;rw[hW0];exact Gst.new HR1.out HO1.out hg
 intro kz;revert HS0;exact kz):P:=h q
theorem jN {P Q:Prop} (q:Q) (h:Q→P:=by
 have HB2:Hid (Below w.heap.size w w2):=(((qBO _ _).alloc (qBL _) _).alloc (by simp) _).trans (hb2.mono qK);have hk:=(hb2.block w.heap.size qK).trans ((qBX _ _ w.heap.size (by simp)).trans (qCT w 65 #[.int .i64 (o:Nat),.int .i64 (x:Nat),.int .i64 (y:Nat)]));have k0:=Blk.cell hk 0;have hs2:w.heap.size+2≤w2.heap.size:=(by have:=hb2.size;simp at this;omega);have HA2:=qBK ((hb2.block (w.heap.size+1) (by simp)).trans (arr_new w _ 297 #[.int .i64 (x:Nat),.int .i64 (y:Nat)]));intro kz;revert HB2 hk k0 hs2 HA2;exact kz):P:=h q
theorem jO {P Q:Prop} (q:Q) (h:Q→P:=by
 have HSS:Hid (∀v,Below W.heap.size W v→v.cell? ⟨PM,0,none⟩=some (.slice A0 n0 d0)∧v.cell? ⟨PM,1,none⟩=some (.slice (some a) n1 d1)∧v.cell? ⟨PM,2,none⟩=some (.slice A2 n2 d2)∧v.cell? ⟨PM,3,none⟩=some (.slice A3 n3 d3)∧v.cell? ⟨PM,4,none⟩=some (.slice A4 n4 d4)∧v.cell? ⟨PL,0,none⟩=some (.slice D n c)∧v.cell? ⟨PF,0,none⟩=some (.slice (some aF) nf cf)∧v.cell? ⟨w.heap.size,0,none⟩=some (.int .i64 (j:Int))∧v.cell? ⟨w.heap.size,1,none⟩=some (.int .i64 f.pc)∧v.cell? ⟨w.heap.size,2,none⟩=some (.slice P0 xl e0)∧v.cell? ⟨w.heap.size,3,none⟩=some (.slice P1 xs e1)∧v.cell? (aF.add (kn*4))=some (.int .i64 gf)):=fun v hb=>⟨(HMV.out v hb).1,(HMV.out v hb).2.1,(HMV.out v hb).2.2.1,(HMV.out v hb).2.2.2.1,(HMV.out v hb).2.2.2.2,(HPV.out v hb).1,(HPV.out v hb).2.1,(HCV.out v hb).1,(HCV.out v hb).2.1,(HCV.out v hb).2.2.1,(HCV.out v hb).2.2.2,qBt HGQ.out (HBB.out v hb)⟩;intro kz;revert HSS;exact kz):P:=h q
theorem jP {P Q:Prop} (q:Q) (h:Q→P:=by
 have tn:((n9:Int) != 0)=true:=by have:0<rest.length:=List.length_pos_iff.2 hne;simp;omega
 have tn2:(n9 != 0)=true:=by have:0<rest.length:=List.length_pos_iff.2 hne;simp;omega
 have tn3:¬n9=0:=by have:0<rest.length:=List.length_pos_iff.2 hne;omega
 intro kz;revert tn tn2 tn3;exact kz):P:=h q
theorem jQ {P Q:Prop} (q:Q) (h:Q→P:=by
 have HO:Hid (o<256):=by show o<256;omega
 have HO64:Hid (o<B64):=by show o<B64;unfold B64;omega
 have HX64:Hid (x<B64):=by show x<B64;unfold B64;omega
 have HY64:Hid (y<B64):=by show y<B64;unfold B64;omega
 have HL1:Hid (1+(vb x).length≤140737488355328):=by show 1+(vb x).length≤140737488355328;have:=qHy x hx;omega
 have HL2:Hid (1+(vb x).length+(vb y).length≤140737488355328):=by show 1+(vb x).length+(vb y).length≤140737488355328;have:=qHy x hx;have:=qHy y hy;omega
 intro kz;revert HO HO64 HX64 HY64 HL1 HL2;exact kz):P:=h q
theorem jR {P Q:Prop} (q:Q) (h:Q→P:=by
 obtain⟨n0,h0⟩:∃n,x.recs.length=n:=⟨_,rfl⟩;obtain⟨n1,h1⟩:∃n,x.funcs.length=n:=⟨_,rfl⟩;obtain⟨n2,h2⟩:∃n,x.imps.length=n:=⟨_,rfl⟩;intro kz;revert n0 h0 n1 h1 n2 h2;exact kz):P:=h q
theorem jS {P Q:Prop} (q:Q) (h:Q→P:=by
 have hway:(t=none∨∃rest,t=some rest∧rest≠[])∨t=some []:=by
  cases t with
  |none=>exact .inl (.inl rfl)
  |some rest=>
   by_cases h:rest=[]
   · subst h;exact .inr rfl
   · exact .inl (.inr ⟨rest,rfl,h⟩)
 intro kz;revert hway;exact kz):P:=h q
theorem jT {P Q:Prop} (q:Q) (h:Q→P:=by
 have HB9:Hid (Below V.heap.size V w9):=HB8.out.trans (hb9.mono HB8.out.size);have HB89:=qBK hb9;have HO9:=qBK ho9;have q2:w9.cell? ⟨g,k*4+2,none⟩=some (.slice P0 la e0):=qEi (HCC.out 2 _ rfl) (HBN.out _ HB9.out).2;have q3:∀u,(w9.setCell ⟨g,k*4+2,none⟩ u).cell? ⟨g,k*4+3,none⟩=some (.slice P1 lb e1):=fun u=>qMP (qEi (HCC.out 3 _ rfl) (HBN.out _ HB9.out).2) (by omega);have p2:w9.frozen? ⟨g,k*4+2,none⟩=false:=(World.frozen?_of_block (a:=⟨g,k*4+2,none⟩) ((HBN.out _ HB9.out).2.block g (by omega))).trans (HFZ.out _);have p3:∀u,(w9.setCell ⟨g,k*4+2,none⟩ u).frozen? ⟨g,k*4+3,none⟩=false:=fun u=>qI1 ((World.frozen?_of_block (a:=⟨g,k*4+3,none⟩) ((HBN.out _ HB9.out).2.block g (by omega))).trans (HFZ.out _));intro kz;revert HB9 HB89 HO9 q2 q3 p2 p3;exact kz):P:=h q
theorem jU {P Q:Prop} (q:Q) (h:Q→P:=by
 have hr1:=qBp (w:=(W.alloc (.cells #[.int .i64 0,.int .i64 0] 61)).drew) ho1 ((qBX _ _ _ HR0.out.lt).trans HR0.out) hgw;have hx1:=qBp (w:=(W.alloc (.cells #[.int .i64 0,.int .i64 0] 61)).drew) ho1 (heap_alloc_new W (.cells #[.int .i64 0,.int .i64 0] 61)) hgW;have HO1:=qBK (qBb (qBg HO0.out (((qBO _ W).alloc HB0.out.size _).drew)) ho1);have HK1:Hid (C2 rb 0 6 (.pointer (some ⟨g,0,none⟩)) (.int .i64 r) w1):=⟨(HM.out.only HO1.out).ptr,(HM.out.only HO1.out).recs⟩;have r0:=Blk.cell hr1 0;have r1:=Blk.cell hr1 1;have f0:=Blk.frozen hr1 0;have f1:=Blk.frozen hr1 1;have x0:=Blk.cell hx1 0;have x1:=Blk.cell hx1 1;have y0:=Blk.frozen hx1 0;have y1:=Blk.frozen hx1 1;have rlt:=hr1.lt;have HW1:Hid (W.heap.size≤w1.heap.size):=(Nat.le_of_lt hx1.lt);intro kz;revert hr1 hx1 HO1 HK1 r0 r1 f0 f1 x0 x1 y0 y1 rlt HW1;exact kz):P:=h q
theorem jV {P Q:Prop} (q:Q) (h:Q→P:=by
 have HL:=qBK hl;have HS:=qBK h;have HP0:=qBK hG;have HW:Hid (witB lo hi g xs=(decide (lo≤(n:Int)∧(n:Int)≤hi) && xs.all g)):=by rw[←hl];exact rfl
 intro kz;revert HL HS HP0 HW;exact kz):P:=h q
theorem jW {P Q:Prop} (q:Q) (h:Q→P:=by
 have TE2:Hid (∀w1,Below w.heap.size w w1→Calls Tryz.prog 57 #[.agg #[.slice A0 n0 d0,.slice A1 n1 d1,.slice A2 n2 d2,.slice A3 n3 d3,.slice A4 n4 d4]] w1 (Errs (checkN x) w1)):=TE.out;intro kz;revert TE2;exact kz):P:=h q
theorem jX {P Q:Prop} (q:Q) (h:Q→P:=by
 have HC:Hid (∀w1,Below (w.heap.size+1) (w.alloc (.cells #[.slice A n c,.slice B m d] 287)) w1→w1.cell? ⟨w.heap.size,0,none⟩=some (.slice A n c)∧w1.cell? ⟨w.heap.size,1,none⟩=some (.slice B m d)):=fun w1 hb1=>⟨(hb1.cell (p:=⟨w.heap.size,0,none⟩) (by simp)).trans zi,(hb1.cell (p:=⟨w.heap.size,1,none⟩) (by simp)).trans zi⟩;have HV0:Hid (belowT (ts.drop b) ins=false→movB ts ins outs=none):=fun h=>qIb HBe.out h;have HV1:Hid (8<b+m→movB ts ins outs=none):=fun h=>qGj HBe.out (by rw[HM.out];exact h);have HV2:Hid (belowT (ts.drop b) ins=true→b+m≤8→movB ts ins outs=some (ts.take b++outs)):=fun h1 h2=>qIa HBe.out HLe.out h1 (by rw[HM.out];exact h2);intro kz;revert HC HV0 HV1 HV2;exact kz):P:=h q
theorem jY {P Q:Prop} (q:Q) (h:Q→P:=by
 have c0:=(HB.out.cell (p:=a.add (k*3)) qD).trans (hc 0 _ rfl);have c1:=(HB.out.cell (p:=a.add (k*3+1)) qD).trans (hc 1 _ rfl);intro kz;revert c0 c1;exact kz):P:=h q
theorem jZ {P Q:Prop} (q:Q) (h:Q→P:=by
 have HK1:Hid (C2 rb 0 6 (.pointer (some ⟨g,0,none⟩)) (.int .i64 r) w1):=⟨(HM.out.only HO1.out).ptr,(HM.out.only HO1.out).recs⟩;have r0:=Blk.cell hr1 0;have r1:=Blk.cell hr1 1;have f0:=Blk.frozen hr1 0;have f1:=Blk.frozen hr1 1;intro kz;revert HK1 r0 r1 f0 f1;exact kz):P:=h q
theorem ja {P Q:Prop} (q:Q) (h:Q→P:=by
 have HS1:Hid (Gst w g w1.heap.size (v:Nat) 0 W1):=by show Gst w g w1.heap.size (v:Nat) 0 W1;rw[hW1];exact HS0x.out.set0 _
 have HG1':Hid (Good W1 g (ys.drop m)):=by show Good W1 g (ys.drop m);rw[hW1];exact HG0x.out.one (by omega) _
 intro kz;revert HS1 HG1';exact kz):P:=h q
theorem jb {P Q:Prop} (q:Q) (h:Q→P:=by
 have TE:Hid (∀w1,Below w.heap.size w w1→Calls Tryz.prog 57 #[vAgg cs] w1 (Errs (checkN x) w1)):=fun w1 hb=>qMO cs x w1 (qCA h hb);intro kz;revert TE;exact kz):P:=h q
theorem jc {P Q:Prop} (q:Q) (h:Q→P:=by
 have HX:=qBK hxl;have HO:=qBK hown;have HY:=qBK honly;have HT:=qBK ht;have HU:=qBK hup;have hsz:=honly.size;intro kz;revert HX HO HY HT HU hsz;exact kz):P:=h q
theorem jd {P Q:Prop} (q:Q) (h:Q→P:=by
 have HA:=qBK hall;have HB:=qBK hbel;have hs:=hbel.size;intro kz;revert HA HB hs;exact kz):P:=h q
theorem je {P Q:Prop} (q:Q) (h:Q→P:=by
 have HR:=qBK hr;have HXX:=qBK hx;have HO1:=qBK ho1;have HW1:=qBK (HO.out.kept hg ho1);have hs1:=ho1.size;intro kz;revert HR HXX HO1 HW1 hs1;exact kz):P:=h q
theorem jf {P Q:Prop} (q:Q) (h:Q→P:=by
 have c0:=(HB.out.cell (p:=a.add (k*2)) qD).trans (hc 0 _ rfl);have c1:=(HB.out.cell (p:=a.add (k*2+1)) qD).trans (hc 1 _ rfl);intro kz;revert c0 c1;exact kz):P:=h q
theorem jg {P Q:Prop} (q:Q) (h:Q→P:=by
 have lb:(ts.take b).length=b:=by rw[List.length_take,HK.out];omega
 have r0:tysL.R (·<w1.heap.size) w1 [.slice (some a) b g] (ts.take b):=⟨some a,g,by rw[lb],by omega,by unfold maxLen;omega,((SK.out.below hb1 (qBL _)).wide fun i hi=>qBN hi hb1.size).take b⟩;have r1:tysL.R (·<w1.heap.size) w1 [.slice B m d] outs:=⟨B,d,by rw[HM.out],by rw[HM.out];exact bd,by unfold maxLen;omega,(SM.out.below hb1 (qBL _)).wide fun i hi=>qBN hi hb1.size⟩;obtain⟨A9,c9,e9,-,-,hsq⟩:=qJV (L:=tysL) hblk hblk.lt rfl r0 r1;intro kz;revert lb r0 r1 A9 c9 e9 hsq;exact kz):P:=h q
theorem jh {P Q:Prop} (q:Q) (h:Q→P:=by
 have p0:w2.cell? ⟨K.gF,K.F.length*4+1,none⟩=some (.int .i64 (p:Int)):=p0;have ht:Trn S W (w2.setCell ⟨K.gF,K.F.length*4+1,none⟩ (.int .i64 ((p:Int)+1))):=(Trn.of_below hb2).set hsg _;obtain⟨x0,x1,x2⟩:=HK.out _ ht;have HM2:Hid (Mf K S (w2.setCell ⟨K.gF,K.F.length*4+1,none⟩ (.int .i64 ((p:Int)+1))) s ⟨(j:Int),(p:Int)+1,l,st⟩):=hset _ ⟨by omega,by omega⟩;have HT2:=qBK ht;have HS2:Hid (∀b,S b→b<(w2.setCell ⟨K.gF,K.F.length*4+1,none⟩ (.int .i64 ((p:Int)+1))).heap.size):=fun b hb'=>by have h1:=HSW.out b hb';have h2:=ht.size;omega
 intro kz;revert p0 ht x0 x1 x2 HM2 HT2 HS2;exact kz):P:=h q
theorem ji {P Q:Prop} (q:Q) (h:Q→P:=by
 have HS1:Hid (Gst w g w1.heap.size 0 0 W1):=by show Gst w g w1.heap.size 0 0 W1;rw[hW1];exact HS0x.out.set0 _
 have HG1':Hid (Bad W1 g):=by show Bad W1 g;rw[hW1];exact HG0x.out.one (by omega) _
 intro kz;revert HS1 HG1';exact kz):P:=h q
theorem jk {P Q:Prop} (q:Q) (h:Q→P:=by
 have HB0:Hid (∀o:Obj,Below w.heap.size w (w.alloc o)):=fun o=>(qBO _ _).alloc (qBL _) _;intro kz;revert HB0;exact kz):P:=h q
theorem jl {P Q:Prop} (q:Q) (h:Q→P:=by
 have HB2:=qBK (HB1.out.trans (hb2.mono HB1.out.size));intro kz;revert HB2;exact kz):P:=h q
theorem jm {P Q:Prop} (q:Q) (h:Q→P:=by
 have hck:css[k]? =some cs:=by
  have e:=List.getElem?_eq_getElem (show k<css.length by omega);have hl':=hk4 _ (List.getElem_mem (show k<css.length by omega));rw[e]
  congr 1
  refine List.ext_getElem? fun i=> ?_;rcases Nat.lt_or_ge i 4 with hi|hi
  · exact qm
  · rw[List.getElem?_eq_none (by omega),List.getElem?_eq_none (by omega)]
 have hnn:n=xs.length:=by
  rcases h2.2 with⟨h,-⟩|⟨g',cap,cur,h,_⟩
  · cases h
  · simp only[Value.slice.injEq] at h
    exact h.2.1
 intro kz;revert hck hnn;exact kz):P:=h q
theorem jn {P Q:Prop} (q:Q) (h:Q→P:=by
 have HL:=qBK hl;have HS:=qBK h;have HP0:=qBK hG;intro kz;revert HL HS HP0;exact kz):P:=h q
theorem jo {P Q:Prop} (q:Q) (h:Q→P:=by
 have Hb2:=qBK ((HB.out.alloc hs _).trans (hb2.mono qK));intro kz;revert Hb2;exact kz):P:=h q
theorem jp {P Q:Prop} (q:Q) (h:Q→P:=by
 have HB0:Hid (Below w.heap.size w W):=by
  show Below w.heap.size w W
  rw[hW];exact(qBO _ _).alloc (qBL _) _
 intro kz;revert HB0;exact kz):P:=h q
theorem jq {P Q:Prop} (q:Q) (h:Q→P:=by
 have e:wb=false:=by
  rw[HW.out,List.all_eq_false];exact⟨x,hmem,by rw[hg];simp⟩
 have E:=qBK e;intro kz;revert e E;exact kz):P:=h q
theorem jr {P Q:Prop} (q:Q) (h:Q→P:=by
 have HR:Hid (∀w1,Only g w w1→Rdy w1 g→Calls Tryz.prog 240 #[.pointer (some ⟨rb,0,none⟩)] w1 fun e w'=>e= .returned (.tuple #[])∧Bad w' g∧Only g w1 w'):=fun w1 ho hr=>qJj rb g v0 v1 v2 v3 v4 r w1 (HM.out.only ho) hr;intro kz;revert HR;exact kz):P:=h q
theorem jt {P Q:Prop} (q:Q) (h:Q→P:=by
 have HBV:Hid (Below w.heap.size w V):=by show Below _ _ _;rw[hV];exact HB1.out
 have HCV:Hid (V.cell? ⟨w.heap.size,1,none⟩=some (.slice B m d)):=by show _=_;rw[hV];exact x1 dq osq
 have hsV:w.heap.size<V.heap.size:=by rw[hV];exact HS1.out
 intro kz;revert HBV HCV hsV;exact kz):P:=h q
theorem ju {P Q:Prop} (q:Q) (h:Q→P:=by
 have Hb2:=qBK (HB.out.trans (hb2.mono hs));intro kz;revert Hb2;exact kz):P:=h q
theorem jv {P Q:Prop} (q:Q) (h:Q→P:=by
 have HO:=qBK hown;have HB:=qBK hbel;have HQ:=qBK hq;have hs:=hbel.size;intro kz;revert HO HB HQ hs;exact kz):P:=h q
theorem jw {P Q:Prop} (q:Q) (h:Q→P:=by
 have hc9:=HCV.out.below HB9.out;have hM:=HC.out.low.2;have hk9:∀b,b≠g→((w9.setCell ⟨g,k*4+2,none⟩ (.slice A8 la c8)).setCell ⟨g,k*4+3,none⟩ (.slice A9 lb c9)).heap[b]? =w9.heap[b]? :=fun b hb=>(qBP _ _ _ _ hb).trans (qBP _ _ _ _ hb);have hs9:((w9.setCell ⟨g,k*4+2,none⟩ (.slice A8 la c8)).setCell ⟨g,k*4+3,none⟩ (.slice A9 lb c9)).heap.size=w9.heap.size:=by simp[World.setCell]
 intro kz;revert hc9 hM hk9 hs9;exact kz):P:=h q
theorem jx {P Q:Prop} (q:Q) (h:Q→P:=by
 have HB0:Hid (∀o:Obj,Below w.heap.size w (w.alloc o)):=fun o=>qBe w o;intro kz;revert HB0;exact kz):P:=h q
theorem jy {P Q:Prop} (q:Q) (h:Q→P:=by
 have HBR:Hid (∀dq osq,Below w.heap.size w (Go.Sort.grow (redrawn U dq) osq)):=fun dq osq=>HBU.out.trans ((below_regrown U dq osq).mono HBU.out.size);intro kz;revert HBR;exact kz):P:=h q
theorem jz {P Q:Prop} (q:Q) (h:Q→P:=by
 obtain⟨b,hb⟩:∃b:Nat,k-n=b:=⟨_,rfl⟩;have HBe:Hid (ts.length-ins.length=b):=by show _=b;rw[HK.out,HN.out];exact hb
 have HLe:Hid (ins.length≤ts.length):=by show _≤_;rw[HK.out,HN.out];omega
 have e1:(k:Int)-(n:Int)=(b:Int):=by omega
 have e2:b≤k:=by omega
 have e3:b≤g:=by omega
 have e4:(b:Int)≤(k:Int):=by omega
 have e5:(b:Int)≤(g:Int):=by omega
 have e6:k-b=n:=by omega
 have e7:(k:Int)≤(g:Int):=by omega
 have e8:decide ((b:Int)<0)=false:=by simp
 intro kz;revert b hb HBe HLe e1 e2 e3 e4 e5 e6 e7 e8;exact kz):P:=h q
theorem j4 {P Q:Prop} (q:Q) (h:Q→P:=by
 have HG0x:=qBK hgx;have HS0x:=qBK (HS0.out.only hox);obtain⟨b00,b01,fb00,fb01,s00,s01,s02,fs00,fs01,fs02⟩:=Gst.cells HS0x.out;intro kz;revert HG0x HS0x b00 b01 fb00 fb01 s00 s01 s02 fs00 fs01 fs02;exact kz):P:=h q
theorem j5 {P Q:Prop} (q:Q) (h:Q→P:=by
 have HB1:=qBK ((HB0.out _).trans (hb1.mono (by simp)));obtain⟨x0,x1,x2,x3,x4⟩:=HC0.out.below hb1 (by simp);intro kz;revert HB1 x0 x1 x2 x3 x4;exact kz):P:=h q
theorem j6 {P Q:Prop} (q:Q) (h:Q→P:=by
 have HL:=qBK hl;have HS:=qBK h;intro kz;revert HL HS;exact kz):P:=h q
theorem j7 {P Q:Prop} (q:Q) (h:Q→P:=by
 have HLd:Hid ((ys.drop m).length≤140737488355328):=by show(ys.drop m).length≤140737488355328;simp;omega
 have HYd:Hid (∀x∈ys.drop m,x<256):=fun x hx=>HY.out x (List.mem_of_mem_drop hx);have H2:=qBK h2;intro kz;revert HLd HYd H2;exact kz):P:=h q
theorem j8 {P Q:Prop} (q:Q) (h:Q→P:=by
 have HR2:=qBK hr2;have r0:=hr2.cell 0;have r1:=hr2.cell 1;have f0:=hr2.frozen 0;have f1:=hr2.frozen 1;have rlt:=hr2.lt;intro kz;revert HR2 r0 r1 f0 f1 rlt;exact kz):P:=h q
theorem j9 {P Q:Prop} (q:Q) (h:Q→P:=by
 have h1:((n:Int) != (m:Int))=true:=by simp;omega
 have h2:(n != m)=true:=by simpa using hnm
 have HNM:=qBK hnm;intro kz;revert h1 h2 HNM;exact kz):P:=h q
theorem qAA {P Q:Prop} (q:Q) (h:Q→P:=by
 obtain⟨P,hP⟩:∃P,w2.heap.size=P:=⟨_,rfl⟩;have HSz3:Hid (P<w3.heap.size):=by show _<_;have:=HS3.out;omega
 intro kz;revert P hP HSz3;exact kz):P:=h q
theorem qAB {P Q:Prop} (q:Q) (h:Q→P:=by
 have h0:xs=[]:=by
  cases xs with
  |nil=>rfl
  |cons t ts=>obtain⟨a,e,-⟩:=hR (by simp);cases e
 intro kz;revert h0;exact kz):P:=h q
theorem qAC {P Q:Prop} (q:Q) (h:Q→P:=by
 have HB1:=qBK ((HB0.out _).trans (hb1.mono (by simp)));intro kz;revert HB1;exact kz):P:=h q
theorem qAD {P Q:Prop} (q:Q) (h:Q→P:=by
 have HB:=qBK hbel;have hs:=hbel.size;intro kz;revert HB hs;exact kz):P:=h q
theorem qAE {P Q:Prop} (q:Q) (h:Q→P:=by
 have HB6:Hid (Below w3.heap.size w3 w6):=HB5.out.trans (hb6.mono HB5.out.size);have E6:=qBK (COc.out w6 _ HB6.out hc6 hh6);intro kz;revert HB6 E6;exact kz):P:=h q
theorem qAF {P Q:Prop} (q:Q) (h:Q→P:=by
 have hg:=hs.lt;have HS:=qBK hs;have HE:=qBK hE;have HPF:=qBK hPF;intro kz;revert hg HS HE HPF;exact kz):P:=h q
theorem qAG {P Q:Prop} (q:Q) (h:Q→P:=by
 have e:xs.any g=true:=qOm hmem hg;have E:=qBK e;intro kz;revert e E;exact kz):P:=h q
theorem qAH {P Q:Prop} (q:Q) (h:Q→P:=by
 have HB3:=qBK (HB2.out.trans (hb3.mono HB2.out.size));have HC3:=qBK hc3;have HS3:=qBK hs3;intro kz;revert HB3 HC3 HS3;exact kz):P:=h q
theorem qAI {P Q:Prop} (q:Q) (h:Q→P:=by
 have HO3:=qBK hown3;have HB3:=qBK (hb3.mono (qBL w2.heap.size));have HA3:=qBK ((hb3.block (w.heap.size+1) (by omega)).trans HA2.out);have a30:=Blk.cell HA3.out 0;intro kz;revert HO3 HB3 HA3 a30;exact kz):P:=h q
theorem qAJ {P Q:Prop} (q:Q) (h:Q→P:=by
 obtain⟨j,hj⟩:=qBk.1 hcs;have hjl:j<xs.length:=by rw[←hl];exact(qBM.1 hj).1
 intro kz;revert j hj hjl;exact kz):P:=h q
theorem qAK {P Q:Prop} (q:Q) (h:Q→P:=by
 have hv:∃A' c',v2= .slice A' n c':=by
  rcases HO2.out.2 with⟨h,h0⟩|⟨g,cap,cur,h,_⟩
  · exact⟨none,0,by rw[h,h0]⟩
  · exact⟨_,_,h⟩
 intro kz;revert hv;exact kz):P:=h q
theorem qAL {P Q:Prop} (q:Q) (h:Q→P:=by
 have HBU:Hid (Below w.heap.size w U):=by show Below _ _ _;rw[hU];exact HB0.out _
 have HCU:Hid (U.cell? ⟨w.heap.size,0,none⟩=some (.slice A n c)∧U.cell? ⟨w.heap.size,1,none⟩=some (.slice B m d)):=by show _∧_;rw[hU];exact HC.out _ (qBO _ _)
 have hsU:w.heap.size<U.heap.size:=by rw[hU];simp
 intro kz;revert HBU HCU hsU;exact kz):P:=h q
theorem qAM {P Q:Prop} (q:Q) (h:Q→P:=by
 have HB1:=qBK (HBR.out dq osq);have HS1:Hid (w.heap.size<(Go.Sort.grow (redrawn U dq) osq).heap.size):=qBN hsU (below_regrown U dq osq).size;intro kz;revert HB1 HS1;exact kz):P:=h q
theorem qAN {P Q:Prop} (q:Q) (h:Q→P:=by
 have k0:=(hb.cell (p:=a.add (j*5)) qD).trans (hcl 0 _ rfl);have k1:=(hb.cell (p:=a.add (j*5+1)) qD).trans (hcl 1 _ rfl);have k2:=(hb.cell (p:=a.add (j*5+2)) qD).trans (hcl 2 _ rfl);have k3:=(hb.cell (p:=a.add (j*5+3)) qD).trans (hcl 3 _ rfl);have k4:=(hb.cell (p:=a.add (j*5+4)) qD).trans (hcl 4 _ rfl);intro kz;revert k0 k1 k2 k3 k4;exact kz):P:=h q
theorem qAO {P Q:Prop} (q:Q) (h:Q→P:=by
 have HBW:Hid (Below w.heap.size w W):=by show Below _ _ _;rw[hW];exact qBe w _
 have HBx:Hid (Blk W w.heap.size 28 #[.slice A0 n0 d0,.slice A1 n1 d1,.slice A2 n2 d2,.slice A3 n3 d3,.slice A4 n4 d4]):=by show Blk _ _ _ _;rw[hW];exact qBl rfl
 have hsW:w.heap.size<W.heap.size:=by rw[hW];simp
 intro kz;revert HBW HBx hsW;exact kz):P:=h q
theorem qAP {P Q:Prop} (q:Q) (h:Q→P:=by
 have HBU:Hid (Below W.heap.size W U):=by show Below _ _ _;rw[hU];exact HB5.out.alloc HB5.out.size _
 obtain⟨G5,hG5⟩:∃G5,w5.heap.size=G5:=⟨_,rfl⟩;have HFB:Hid (Blk U G5 70 #[.slice Q0 na c0,.int .i64 rt1,.int .i64 rt2,.slice Q1 nl c1,.slice Q2 nc c2]):=by show Blk _ _ _ _;rw[hU];exact qBl hG5
 intro kz;revert HBU G5 hG5 HFB;exact kz):P:=h q
theorem qAQ {P Q:Prop} (q:Q) (h:Q→P:=by
 have c2:=(HB.out.cell (p:=a.add (k*3+2)) qD).trans (hc 2 _ rfl);intro kz;revert c2;exact kz):P:=h q
theorem qAR {P Q:Prop} (q:Q) (h:Q→P:=by
 have HM:=qBK h;have HU:=qBK (qJs (g:=g) (r:=r) h0 h1 h2 h3 h4);have hg:=hs.lt;have hrb:=h.2.lt;have HC:Hid (Calls Tryz.prog 187 #[.pointer (some ⟨rb,0,none⟩),.int .i64 0,.int .i64 16] w (Counts 0 16 g s w)):=qC1 rb g v0 v1 v2 v3 v4 r 0 16 s w h hs (by omega) (by omega);intro kz;revert HM HU hg hrb HC;exact kz):P:=h q
theorem qAS {P Q:Prop} (q:Q) (h:Q→P:=by
 have HS1:Hid (St W1 g t0):=by show St _ _ _;rw[hW];exact(HS0x.out.set _ (by omega))
 have HA1:Hid (Abv (w.heap.size+2) w0 W1):=by show Abv _ _ _;rw[hW];exact((Abv.refl (w.heap.size+2) w0).set (w.heap.size+1) _ (by omega))
 have hz1:w.heap.size+2≤W1.heap.size:=by rw[hW];simp;omega
 intro kz;revert HS1 HA1 hz1;exact kz):P:=h q
theorem qAT {P Q:Prop} (q:Q) (h:Q→P:=by
 have hz1:=HB1.out.size;have hz0:((w.alloc (.cells #[.slice A0 n0 d0,.slice A1 n1 d1,.slice A2 n2 d2,.slice A3 n3 d3,.slice A4 n4 d4] 28)).alloc (.cells #[.slice none 0 0,.slice none 0 0,.slice none 0 0,.slice none 0 0,.slice none 0 0] 28)).heap.size=w.heap.size+2:=by simp
 intro kz;revert hz1 hz0;exact kz):P:=h q
theorem qAU {P Q:Prop} (q:Q) (h:Q→P:=by
 have e:wb=false:=by rw[HW.out];simp;omega
 intro kz;revert e;exact kz):P:=h q
theorem qAV {P Q:Prop} (q:Q) (h:Q→P:=by
 obtain⟨y,hy⟩:∃y,ys[k]? =some y:=⟨ys[k]'(by rw[HM.out];exact hlt),List.getElem?_eq_getElem _⟩;intro kz;revert y hy;exact kz):P:=h q
theorem qAW {P Q:Prop} (q:Q) (h:Q→P:=by
 have HB2:=qBK hB2;have HO2:=qBK (qCa (HO.out) hb2 (qBL _));have Hb2:=qBK ((HB.out).trans (hb2.mono (hs)));have hs2:=Hb2.out.size;intro kz;revert HB2 HO2 Hb2 hs2;exact kz):P:=h q
theorem qAX {P Q:Prop} (q:Q) (h:Q→P:=by
 have HO4:=qBK hown4;have HB4:Hid (Below V.heap.size V w4):=zB;have SS4:=qBK ((HB4.out.cell (p:=⟨w.heap.size,1,none⟩) hsV).trans HCV.out);intro kz;revert HO4 HB4 SS4;exact kz):P:=h q
theorem qAY {P Q:Prop} (q:Q) (h:Q→P:=by
 have qq:∀(w:World) (a:Option Addr) (n c n' c':Nat),(binOp .eql 31 (.slice a n c) (.slice none n' c')).run Tryz.prog w= .ok (.bool a.isNone) w:=fun w a n c n' c'=>Lib.run_eql_slice_nil w _ _ a n c n' c' Tryz.underlying31;have HL:=qBK hl;have HR:=qBK hR;intro kz;revert qq HL HR;exact kz):P:=h q
theorem qAZ {P Q:Prop} (q:Q) (h:Q→P:=by
 have f10:=hfz3 10;have HG3:=qBK hsg3;have HM3:=qBK hm3;have hTb:∀b,T b→b<w3.heap.size:=fun b hb=>(hT3 b hb).elim (fun q=>by have h1:=HS2.out b q;have h2:=ht3.size;omega) fun q=>q.2;have HTB:=qBK hTb;have HR3:=qBK (qNS (HTW.out.trans HT2.out fun _ _ q=>q) hT3 hev3 ht3);intro kz;revert f10 HG3 HM3 hTb HTB HR3;exact kz):P:=h q
theorem qAa {P Q:Prop} (q:Q) (h:Q→P:=by
 have HM:=qBK h;have HU:=qBK (qJs (g:=g) (r:=r) h0 h1 h2 h3 h4);have hg:=hs.lt;have hrb:=h.2.lt;intro kz;revert HM HU hg hrb;exact kz):P:=h q
theorem qAb {P Q:Prop} (q:Q) (h:Q→P:=by
 have HB5:Hid (Below w3.heap.size w3 w5):=(qBO _ w3).drew.trans (hb5.mono (qBL _));intro kz;revert HB5;exact kz):P:=h q
theorem qAc {P Q:Prop} (q:Q) (h:Q→P:=by
 obtain⟨n3,h3⟩:∃n,x.ints.length=n:=⟨_,rfl⟩;obtain⟨n4,h4⟩:∃n,x.texts.length=n:=⟨_,rfl⟩;intro kz;revert n3 h3 n4 h4;exact kz):P:=h q
theorem qAd {P Q:Prop} (q:Q) (h:Q→P:=by
 have HCS:Hid (∀v,Below W.heap.size W v→C7 (w.heap.size+1) (.slice (some aF) nf cf) (.slice O no co) (.slice H nh ch) (.int .i64 s.quota) (.int .i64 s.used) (.int .i64 s.fin) (.int .u64 (s.val:Int)) v):=fun v hb=>hC7.below hb hsW;intro kz;revert HCS;exact kz):P:=h q
theorem qAe {P Q:Prop} (q:Q) (h:Q→P:=by
 have x0:=hkk.cell 0;have x1:=hkk.cell 1;have x2:=hkk.cell 2;have x3:=hkk.cell 3;have x4:=hkk.cell 4;have x5:=hkk.cell 5;have x6:=hkk.cell 6;have f0:=hkk.frozen 0;have f1:=hkk.frozen 1;have f2:=hkk.frozen 2;have f3:=hkk.frozen 3;have f4:=hkk.frozen 4;have f5:=hkk.frozen 5;have f6:=hkk.frozen 6;intro kz;revert x0 x1 x2 x3 x4 x5 x6 f0 f1 f2 f3 f4 f5 f6;exact kz):P:=h q
theorem qAf {P Q:Prop} (q:Q) (h:Q→P:=by
 have c0:=(HB.out.cell (p:=a.add (k*5)) qD).trans (hc 0 _ rfl);have c1:=(HB.out.cell (p:=a.add (k*5+1)) qD).trans (hc 1 _ rfl);intro kz;revert c0 c1;exact kz):P:=h q
theorem qAg {P Q:Prop} (q:Q) (h:Q→P:=by
 have hgw:w.heap.size≠g:=by omega
 intro kz;revert hgw;exact kz):P:=h q
theorem qAh {P Q:Prop} (q:Q) (h:Q→P:=by
 have q23:∀(w:World) (a:Option Addr) (n c n' c':Nat),(binOp .eql 76 (.slice a n c) (.slice none n' c')).run Tryz.prog w= .ok (.bool a.isNone) w:=fun w a n c n' c'=>Lib.run_eql_slice_nil w _ _ a n c n' c' Tryz.underlying76;intro kz;revert q23;exact kz):P:=h q
theorem qAi {P Q:Prop} (q:Q) (h:Q→P:=by
 have hk:∀o:Obj,∀b,b<w.heap.size→(w.alloc o).heap[b]? =w.heap[b]? :=fun o b hb=>qBX w _ b hb;have e:(⟨w.heap.size,0,none⟩:Addr).add j=⟨w.heap.size,j,none⟩:=by unfold Addr.add;split<;>simp_all
 intro kz;revert hk e;exact kz):P:=h q
theorem qAj {P Q:Prop} (q:Q) (h:Q→P:=by
 have Y0c:=qBK (Y0b.out.below hb3);have Y1b:=qBK (Y1a.out.below hb3);have Y2a:=qBK hy2;have HB3:=qBK (HB2.out.trans (hb3.mono HB2.out.size));have HC3:=qBK (HC2.out.below hb3 HS2.out);have HS3:=qBK (qBN HS2.out hb3.size);intro kz;revert Y0c Y1b Y2a HB3 HC3 HS3;exact kz):P:=h q
theorem qAk {P Q:Prop} (q:Q) (h:Q→P:=by
 have HS1:=qBK hs1;have HO1:=qBK (qBb (qCL ((qBO _ w).drew)) ho1);have hk1:=(HM.out.only HO1.out).ptr;intro kz;revert HS1 HO1 hk1;exact kz):P:=h q
theorem qAl {P Q:Prop} (q:Q) (h:Q→P:=by
 have HK0:Hid (C2 rb 0 6 (.pointer (some ⟨g,0,none⟩)) (.int .i64 r) W):=⟨(HM.out.below HB0.out).ptr,(HM.out.below HB0.out).recs⟩;obtain⟨z0,z6⟩:=HK0.out;have hWs:=HR0.out.lt;have hrW:rb<W.heap.size:=by omega
 have hgW:W.heap.size≠g:=by omega
 intro kz;revert HK0 z0 z6 hWs hrW hgW;exact kz):P:=h q
theorem qAm {P Q:Prop} (q:Q) (h:Q→P:=by
 have HK1:Hid (Blk W (N+1) 34 #[.slice none 0 0,.slice none 0 0,.slice none 0 0,.int .i64 0,.int .i64 0,.int .i64 0,.int .u64 0]):=by show Blk _ _ _ _;rw[hW];exact qBl qK
 have hsW:W.heap.size=N+2:=by rw[hW];simp;omega
 intro kz;revert HK1 hsW;exact kz):P:=h q
theorem qAn {P Q:Prop} (q:Q) (h:Q→P:=by
 have k0:=fun o1 o2=>((qBe w o1).alloc (by simp) o2).cell (p:=a.add (j*2)) qD |>.trans (hc 0 _ rfl);have k1:=fun o1 o2=>((qBe w o1).alloc (by simp) o2).cell (p:=a.add (j*2+1)) qD |>.trans (hc 1 _ rfl);intro kz;revert k0 k1;exact kz):P:=h q
theorem qAo {P Q:Prop} (q:Q) (h:Q→P:=by
 have HB2:=qBK hB2;have HO2:=qBK (qCa (HO.out.alloc _) hb2 (qBL _));intro kz;revert HB2 HO2;exact kz):P:=h q
theorem qAp {P Q:Prop} (q:Q) (h:Q→P:=by
 have HO1:=qBK hown1;have HB1:=qBK hb1;intro kz;revert HO1 HB1;exact kz):P:=h q
theorem qAq {P Q:Prop} (q:Q) (h:Q→P:=by
 have HB4:Hid (Below W.heap.size W w4):=(by show Below _ _ _;exact(qBO _ W).drew.trans (hb4.mono (by simp)));have S9:=qBK s9;have S8:=qBK s8;have HD9:=qBK (And.intro hd9 hm9);have SS4:=qBK (HC.out _ HB4.out);intro kz;revert HB4 S9 S8 HD9 SS4;exact kz):P:=h q
theorem qAr {P Q:Prop} (q:Q) (h:Q→P:=by
 have hN2:=HKM.out;have e:∀(b o:Nat),b≠g→(v.setCell ⟨g,i,none⟩ u).cell? ⟨b,o,none⟩=v.cell? ⟨b,o,none⟩:=fun b o hb=>qBd (a:=⟨b,o,none⟩) (qBP _ _ _ _ hb);intro kz;revert hN2 e;exact kz):P:=h q
theorem qAs {P Q:Prop} (q:Q) (h:Q→P:=by
 obtain⟨i,hi⟩:=qBk.1 hc;have hil:i<xs.length:=by rw[←h1];exact(qBM.1 hi).1
 intro kz;revert i hi hil;exact kz):P:=h q
theorem qAt {P Q:Prop} (q:Q) (h:Q→P:=by
 have HB4:=qBK (HB3.out.trans (hb4.mono HB3.out.size));intro kz;revert HB4;exact kz):P:=h q
theorem qAu {P Q:Prop} (q:Q) (h:Q→P:=by
 obtain⟨hm0,-,hc⟩:=HF.out W hW;have HM:=qBK hm0;have HC:=qBK hc;have HSW:Hid (W.heap.size=w.heap.size+1∧Below w.heap.size w W):=by show _∧_;rw[hW];exact⟨by simp,(qBO _ _).alloc (qBL _) _⟩
 intro kz;revert hm0 hc HM HC HSW;exact kz):P:=h q
theorem qAv {P Q:Prop} (q:Q) (h:Q→P:=by
 have HS0:Hid (St W0 g s):=by show St W0 g s;rw[hW0];exact HS.out.low (((qBO w.heap.size w).alloc (qBL _) _).alloc (by simp) _) hg
 have hz0:w.heap.size+2≤W0.heap.size:=by rw[hW0];simp
 intro kz;revert HS0 hz0;exact kz):P:=h q
theorem qAw {P Q:Prop} (q:Q) (h:Q→P:=by
 have HB7:Hid (Below w3.heap.size w3 w7):=HB6.out.trans (hb7.mono HB6.out.size);intro kz;revert HB7;exact kz):P:=h q
theorem qAx {P Q:Prop} (q:Q) (h:Q→P:=by
 have HN:=qBK hn;have HM:=qBK hm;have HK:=qBK hk;have SN:=qBK sn;have SM:=qBK sm;have SK:=qBK sk;intro kz;revert HN HM HK SN SM SK;exact kz):P:=h q
theorem qAy {P Q:Prop} (q:Q) (h:Q→P:=by
 have Hb2:=qBK ((HB.out).trans (hb2.mono (hs)));intro kz;revert Hb2;exact kz):P:=h q
theorem qAz {P Q:Prop} (q:Q) (h:Q→P:=by
 have hjl:j<css.length:=by rw[hl];exact(qBM.1 hx).1
 have hcs:=List.getElem?_eq_getElem hjl;intro kz;revert hjl hcs;exact kz):P:=h q
theorem qA0 {P Q:Prop} (q:Q) (h:Q→P:=by
 have q0hr:=HV0x.out.1;have q0hv:=HV0x.out.2.1;have q0r0:=q0hr.cell 0;have q0f0:=q0hr.frozen 0;have q0x0:=q0hv.cell 0;have q0y0:=q0hv.frozen 0;have q0r1:=q0hr.cell 1;have q0f1:=q0hr.frozen 1;have q0x1:=q0hv.cell 1;have q0y1:=q0hv.frozen 1;have q0r2:=q0hr.cell 2;have q0f2:=q0hr.frozen 2;have q0x2:=q0hv.cell 2;have q0y2:=q0hv.frozen 2;intro kz;revert q0hr q0hv q0r0 q0f0 q0x0 q0y0 q0r1 q0f1 q0x1 q0y1 q0r2 q0f2 q0x2 q0y2;exact kz):P:=h q
theorem qA1 {P Q:Prop} (q:Q) (h:Q→P:=by
 have q1hr:=HV1x.out.1;have q1hv:=HV1x.out.2.1;have q1r0:=q1hr.cell 0;have q1f0:=q1hr.frozen 0;have q1x0:=q1hv.cell 0;have q1y0:=q1hv.frozen 0;have q1r1:=q1hr.cell 1;have q1f1:=q1hr.frozen 1;have q1x1:=q1hv.cell 1;have q1y1:=q1hv.frozen 1;have q1r2:=q1hr.cell 2;have q1f2:=q1hr.frozen 2;have q1x2:=q1hv.cell 2;have q1y2:=q1hv.frozen 2;intro kz;revert q1hr q1hv q1r0 q1f0 q1x0 q1y0 q1r1 q1f1 q1x1 q1y1 q1r2 q1f2 q1x2 q1y2;exact kz):P:=h q
theorem qA2 {P Q:Prop} (q:Q) (h:Q→P:=by
 have HSN:Hid (∀V i u,Below w.heap.size w V→Below w.heap.size w (V.setCell ⟨w.heap.size,i,none⟩ u)):=fun V i u hV=>hV.setCell (show w.heap.size≤w.heap.size from qBL _) u;intro kz;revert HSN;exact kz):P:=h q
theorem qA3 {P Q:Prop} (q:Q) (h:Q→P:=by
 have hb2:=hb.trans (hb1.mono hb.size);obtain⟨r1,r2,r3⟩:=HRc.out w1 hb2;intro kz;revert hb2 r1 r2 r3;exact kz):P:=h q
theorem qA4 {P Q:Prop} (q:Q) (h:Q→P:=by
 have HC:Hid (Calls Tryz.prog 187 #[.pointer (some ⟨rb,0,none⟩),.int .i64 0,.int .i64 8] w (Counts 0 8 g s w)):=qC1 rb g v0 v1 v2 v3 v4 r 0 8 s w h hs (by omega) (by omega);intro kz;revert HC;exact kz):P:=h q
theorem qA5 {P Q:Prop} (q:Q) (h:Q→P:=by
 have HO5:=qBK hown5;have HB5:=qBK (HB4.out.grown hg5 HS4.out (fun i hi=>(HO4.out.lt i hi).1));have HA5:=qBK ((HB5.out.block (w.heap.size+1) (by omega)).trans HA2.out);have a51:=Blk.cell HA5.out 1;intro kz;revert HO5 HB5 HA5 a51;exact kz):P:=h q
theorem qA6 {P Q:Prop} (q:Q) (h:Q→P:=by
 have HB3:=qBK hb3;have hr3:=(hb3.block w.heap.size qK).trans ((qBX w2 _ _ rlt).trans HR2.out);have q0:=Blk.cell hr3 0;have q1:=Blk.cell hr3 1;have p0:=Blk.frozen hr3 0;have p1:=Blk.frozen hr3 1;intro kz;revert HB3 hr3 q0 q1 p0 p1;exact kz):P:=h q
theorem qA7 {P Q:Prop} (q:Q) (h:Q→P:=by
 have Hl:Hid ((xs.drop n).length≤140737488355328):=by show(xs.drop n).length≤140737488355328;simp;omega
 have Hbd:Hid (∀x∈xs.drop n,x<256):=fun x hx=>hb x (List.mem_of_mem_drop hx);intro kz;revert Hl Hbd;exact kz):P:=h q
theorem qA8 {P Q:Prop} (q:Q) (h:Q→P:=by
 have HR0:Hid (Blk W w.heap.size 61 #[.int .i64 0,.int .i64 0]):=by show Blk W _ _ _;rw[hW];exact heap_alloc_new w _
 have HO0:Hid (Only g w W):=by show Only g w W;rw[hW];exact qBh _
 intro kz;revert HR0 HO0;exact kz):P:=h q
theorem qA9 {P Q:Prop} (q:Q) (h:Q→P:=by
 have HL:=qBK hl;have HM:=qBK hm;have HS:=qBK h;have HT:=qBK h';intro kz;revert HL HM HS HT;exact kz):P:=h q
theorem qBA {P Q:Prop} (q:Q) (h:Q→P:=by
 have cr:=qB9 (K:=tysL.k) rfl (hc 0 _ rfl);have cr2:∀o:Obj,(w.alloc o).cell? (a0.add k)=_:=fun o=>(((qBO _ w).alloc (qBL _) o).cell (p:=a0.add k) qD).trans cr;intro kz;revert cr cr2;exact kz):P:=h q
theorem qBB {P Q:Prop} (q:Q) (h:Q→P:=by
 have HL:=qBK hl;have HR:=qBK hR;intro kz;revert HL HR;exact kz):P:=h q
theorem qBC {P Q:Prop} (q:Q) (h:Q→P:=by
 have HZ:=qBK hz;have HG2:=qBK hg2;have HO2:=qBK ho2;have hk2:=((HM.out.only HO1.out).only ho2).ptr;intro kz;revert HZ HG2 HO2 hk2;exact kz):P:=h q
theorem qBD {P Q:Prop} (q:Q) (h:Q→P:=by
 have HO2:=qBK hown2;have HB2:=qBK (((qBO w.heap.size w).alloc (qBL _) (.cells #[] 102)).grown hg2 (by simp) (fun i hi=>by simp[Value.ownBlock] at hi;omega));intro kz;revert HO2 HB2;exact kz):P:=h q
theorem qBE {P Q:Prop} (q:Q) (h:Q→P:=by
 obtain⟨wb,hwb⟩:∃wb,witB lo hi g xs=wb:=⟨_,rfl⟩;intro kz;revert wb hwb;exact kz):P:=h q
theorem qBF {P Q:Prop} (q:Q) (h:Q→P:=by
 have HB7:Hid (Below U.heap.size U w7):=((qBO _ U).drew.alloc (qBL _) _).trans (hb7.mono (by simp));have E2:=qBK (E1.out w7 (HBUU.out _ HB7.out) A7 c7 hsq7);intro kz;revert HB7 E2;exact kz):P:=h q
theorem qBG {P Q:Prop} (q:Q) (h:Q→P:=by
 have HB1:=qBK hb1;obtain⟨y0,y1,y2,y3,y4⟩:=HCM.out w1 hb1;intro kz;revert HB1 y0 y1 y2 y3 y4;exact kz):P:=h q
theorem qBH {P Q:Prop} (q:Q) (h:Q→P:=by
 have hb2:=HBB.out _ (HB3.out.trans (hb.mono HB3.out.size));intro kz;revert hb2;exact kz):P:=h q
theorem qBI {P Q:Prop} (q:Q) (h:Q→P:=by
 have HBX:Hid (Below W.heap.size W X):=by show Below _ _ _;rw[hX];exact((HBf.out.alloc HBf.out.size _).alloc (by have:=HBf.out.size;first|omega|(simp;omega)) _).drew
 intro kz;revert HBX;exact kz):P:=h q
theorem qBJ {P Q:Prop} (q:Q) (h:Q→P:=by
 have HO4:=qBK hown4;have HG4:=qBK hg4;intro kz;revert HO4 HG4;exact kz):P:=h q
theorem trn {c:World} (h:Below B a b) (k:Below b.heap.size b c) (hB:B=a.heap.size:=by rfl):Below B a c:=h.trans (k.mono (by rw[hB];exact h.size))
theorem qBn (a:Addr) (n:Nat):(a.add n).block=a.block:=by
 unfold Addr.add
 by_cases h:n=0<;>simp[h]
theorem qET (a:Addr) (i j:Nat):(a.add i).add j=a.add (i+j):=by
 unfold Addr.add
 by_cases hi:i=0
 · simp[hi]
 · by_cases hj:j=0
   · simp[hi,hj]
   · simp[hi,hj,Nat.add_assoc]
def Blk (w:World) (g:Nat) (t:TypeId) (cs:Array Value):Prop:=w.heap[g]? =some (.cells cs t (0,0))
theorem Blk.lt (h:Blk w g t cs):g<w.heap.size:=(Array.getElem?_eq_some_iff.1 h).1
theorem Blk.cell (h:Blk w g t cs) (i:Nat):w.cell? ⟨g,i,none⟩=cs[i]? :=cell_of_row w g i cs t (0,0) h
theorem Blk.frozen (h:Blk w g t cs) (i:Nat):w.frozen? ⟨g,i,none⟩=false:=by
 unfold Blk at h;simp[World.frozen?,h]
theorem Blk.set (h:Blk w g t cs) (i:Nat) (u:Value):Blk (w.setCell ⟨g,i,none⟩ u) g t (cs.setIfInBounds i u):=by
 unfold Blk at h⊢;simp[World.setCell,Array.getElem?_modify,h]
theorem qHP {k:IntKind} {a b:Int} (h:a=b):Ending.returned (.int k a)= .returned (.int k b):=by rw[h]
def Only (g:Nat) (w w':World):Prop:=w.grownBy w' (some g)
theorem qBv (g:Nat) (w:World):Only g w w:=⟨rfl,rfl,rfl,qBL _,fun _ _ _=>rfl⟩
theorem qBb {c:World} (h:Only g a b) (k:Only g b c):Only g a c:=
 ⟨k.os.trans h.os,k.tape.trans h.tape,k.output.trans h.output,qBZ h.size k.size,fun i hi hne=>(k.block i (qBN hi h.size) hne).trans (h.block i hi hne)⟩
theorem qCX (h:Only g a b) (i:Nat) (u:Value):Only g a (b.setCell ⟨g,i,none⟩ u):=
 qBb h ⟨rfl,rfl,rfl,by simp[World.setCell],fun k _ hne=>qBP _ _ _ _ (fun e=>hne (by rw[e]))⟩
theorem qCL (h:Below a.heap.size a b):Only g a b:=⟨h.os,h.tape,h.output,h.size,fun i hi _=>h.block i hi⟩
theorem qCN (h:Only g a b) (hg:B≤g) (hB:B≤a.heap.size):Below B a b:=
 ⟨h.os,h.tape,h.output,h.size,fun i hi=>h.block i (by omega) (fun e=>by injection e;omega)⟩
theorem qBg {c:World} (h:Only g a b) (k:Below a.heap.size b c):Only g a c:=
 ⟨k.os.trans h.os,k.tape.trans h.tape,k.output.trans h.output,qBZ h.size k.size,fun i hi hne=>(k.block i hi).trans (h.block i hi hne)⟩
theorem qBh (o:Obj):Only g a (a.alloc o):=qCL ((qBO _ a).alloc (qBL _) _)
def IsRow (k:IntKind) (w:World) (a:Option Addr) (len cap:Nat) (zs:List Int):Prop:=
 (a=none∧len=0∧cap=0∧zs=[])∨
 ∃x,a=some x∧len≤cap∧cap≤maxLen∧zs.length=cap∧(∀i,i<zs.length→w.cell? (x.add i)=some (.int k (zs.getD i 0)))∧∀n∈zs,(Lit.int k n).wf=true
def Bs (xs:List Nat):List Value:=xs.map fun x:Nat=>Value.int .u8 (x:Int)
theorem qDW (xs:List Nat):(Bs xs).length=xs.length:=by simp[Bs]
theorem qHq (xs:List Nat) (j:Nat) (h:j<xs.length):(Bs xs)[j]? =some (.int .u8 ((xs[j]?.getD 0:Nat):Int)):=by simp[Bs,h]
theorem qOw (xs ys:List Nat):Bs (xs++ys)=Bs xs++Bs ys:=by simp[Bs]
theorem Bs_one (xs:List Nat):∀u∈Bs xs,u.oneCell'=true:=by
 intro u hu;obtain⟨x,_,rfl⟩:=List.mem_map.1 hu
 rfl
def Byt (S:Nat→Prop) (w:World) (A:Option Addr) (xs:List Nat):Prop:=
 0<xs.length→∃a,A=some a∧S a.block∧∀j,j<xs.length→w.cell? (a.add j)=some (.int .u8 ((xs[j]?.getD 0:Nat):Int))
theorem Byt.nil (S:Nat→Prop) (w:World) (A:Option Addr):Byt S w A []:=fun h=>absurd h (by simp)
theorem Byt.keep (h:Byt S w A xs) (hk:∀b,S b→w'.heap[b]? =w.heap[b]?):Byt S w' A xs:=fun hn=>by
 obtain⟨a,e,hs,hc⟩:=h hn;exact⟨a,e,hs,fun j hj=>(qBd (hk _ zv)).trans (hc j hj)⟩
theorem Byt.wide {T:Nat→Prop} (h:Byt S w A xs) (hk:∀b,S b→T b):Byt T w A xs:=fun hn=>by
 obtain⟨a,e,hs,hc⟩:=h hn;exact⟨a,e,hk _ hs,hc⟩
theorem Byt.take (h:Byt S w A xs) (k:Nat):Byt S w A (xs.take k):=fun hn=>by
 have hl:(xs.take k).length≤xs.length:=by simp;omega
 obtain⟨a,e,hs,hc⟩:=h (by omega);refine⟨a,e,hs,fun j hj=> ?_⟩;have hj':j<k:=by simp at hj;omega
 rw[hc j (by omega),List.getElem?_take_of_lt hj']
theorem Byt.drop (h:Byt S w A xs) (k:Nat):Byt S w (A.map (·.add k)) (xs.drop k):=fun hn=>by
 have hl:(xs.drop k).length=xs.length-k:=by simp
 obtain⟨a,e,hs,hc⟩:=h (by omega);refine⟨a.add k,by rw[e];rfl,by rw[qBn];exact hs,fun j hj=> ?_⟩;rw[qET,hc (k+j) (by omega),List.getElem?_drop]
theorem Byt.at (h:Byt S w A xs) (hk:k<xs.length):
 ∃a,A=some a∧S a.block∧w.cell? (a.add k)=some (.int .u8 ((xs[k]?.getD 0:Nat):Int)):=by
 obtain⟨a,e,hs,hc⟩:=h (by omega);exact⟨a,e,hs,hc k hk⟩
theorem qBu (h:w.ownsRow base 5 1 v n (Bs xs)):
 ∃A c,v= .slice A n c∧n=xs.length∧n≤c∧c≤maxLen∧Byt (fun b=>base≤b∧b<w.heap.size) w A xs:=by
 have hn:n=xs.length:=by have:=h.1;rw[qDW] at this;omega
 rcases h.2 with⟨rfl,h0⟩|⟨g,cap,cur,rfl,hb,hg,hnc,hcm,_,_⟩
 · refine⟨none,0,by rw[h0],hn,by omega,by simp[maxLen],fun hpos=>absurd hpos (by omega)⟩
 · refine⟨some ⟨g,0,none⟩,cap,rfl,hn,hnc,hcm,fun _=>⟨⟨g,0,none⟩,rfl,⟨hb,(Array.getElem?_eq_some_iff.1 hg).1⟩,fun j hj=> ?_⟩⟩
   exact h.cells rfl j _ (qHq xs j hj)
theorem qFK:(Tryz.prog.info? 5).map (fun i=>(i.zero,i.size,i.bytes))=some (some (.int .u8 0),1,1):=by kernel_rfl
section
variable (w:World)
theorem qDL (base ty:Nat) (v:Value) (n:Nat) (xs:List Nat) (hown:w.ownsRow base 5 1 v n (Bs xs)) (A:Option Addr) (m c:Nat) (ys:List Nat) (hm:ys.length=m)
 (S:Nat→Prop) (hy:Byt S w A ys) (hbig:n+m≤140737488355328) (hbase:base≤w.heap.size):
 ∃v' w',(Builtin.append_ #[76,76] ty #[v,.slice A m c]).run Tryz.prog w= .ok v' w'∧w'.ownsRow base 5 1 v' (n+m) (Bs (xs++ys))∧w.grownBy w' v.ownBlock∧
  (v'.ownBlock=v.ownBlock∨v'.ownBlock=some w.heap.size):=by
 obtain⟨i0,hi0,hz0,hz1,hz2⟩:=info_parts qFK;rw[qOw];rcases A with _|a
 · have h0:m=0:=by
    rcases Nat.eq_zero_or_pos m with h|h
    · exact h
    · obtain⟨a,h,_⟩:=hy (by omega)
      cases h
   subst h0;obtain rfl:ys=[]:=qBY hm;refine⟨v,w,?_,by simpa[Bs] using hown,⟨rfl,rfl,rfl,qBL _,fun _ _ _=>rfl⟩,.inl rfl⟩;have ht:=run_underlying (P:=Tryz.prog) (w:=w) Tryz.underlying76;exact zE
 · have hcells:∀j u,(Bs ys)[j]? =some u→w.cell? (a.add j)=some u:=by
    intro j u hu;have hj:j<ys.length:=by
     rcases Nat.lt_or_ge j ys.length with h|h
     · exact h
     · rw[List.getElem?_eq_none (by rw[qDW];omega)] at hu;cases hu
    obtain⟨a',e,_,hc⟩:=hy (by omega);injection e with e;subst e;rw[hc j hj,←hu,qHq ys j hj]
   obtain⟨v',w',hrun,h2,h3,_,h5⟩:=run_append_own_at (P:=Tryz.prog) w base 76 ty 5 i0 (.int .u8 0) 1 1 Tryz.underlying76 hi0 hz0 hz1 hz2 rfl (by omega) v n (Bs xs) hown a m c (Bs ys) (by rw[qDW];omega) hcells (Bs_one ys)
    zM (by omega) hbase
   exact⟨v',w',hrun,h2,h3,h5⟩
theorem qBr {a:Act} {Q:Exit→Act→World→Prop} (hgd:o.guard=none) (s x:Operand)
 (ho:o.op= .call {callee:= .builtin .append,args:= #[s,x],argTypes:= #[76,76]})
 (base:Nat) (v:Value) (n:Nat) (xs:List Nat) (hs:a.eval s=v) (hown:w.ownsRow base 5 1 v n (Bs xs)) (A:Option Addr) (m c:Nat) (ys:List Nat) (hx:a.eval x= .slice A m c) (hm:ys.length=m)
 (S:Nat→Prop) (hy:Byt S w A ys) (hbig:n+m≤140737488355328) (hbase:base≤w.heap.size)
 (h:∀v' w',w'.ownsRow base 5 1 v' (n+m) (Bs (xs++ys))→w.grownBy w' v.ownBlock→(v'.ownBlock=v.ownBlock∨v'.ownBlock=some w.heap.size)→wpList Tryz.prog ops Q rest (a.put o.dst v') w'):
 wpList Tryz.prog ops Q (o::rest) a w:=by
 refine wpList_plain hgd fun _ hK=> ?_;obtain⟨v',w',hrun,h2,h3,h4⟩:=qDL w base o.type v n xs hown A m c ys hm S hy hbig hbase;unfold Oper.wp execOp;simp only[ho,resolve,invoke,builtin,Sem.run_bind,Sem.run_pure,Result.andThen_ok,List.map_toArray,List.map_cons,List.map_nil,hs,hx,hrun];exact hK _ _ (h v' w' h2 h3 h4)
end
theorem qGh (w:World):(w.alloc (.cells #[] 5)).ownsRow w.heap.size 5 1 (.slice (some ⟨w.heap.size,0,none⟩) 0 0) 0 (Bs []):=
 World.ownsRow_made w #[] 0 (qBL _) (by simp[maxLen]) (by simp)
theorem qLD (w:World) (z:Int) (x:Nat) (h:z=(x:Int)):Byt (·=w.heap.size) (w.alloc (.cells #[.int .u8 z] 5)) (some ⟨w.heap.size,0,none⟩) [x]:=fun _=>
 ⟨_,rfl,rfl,fun j hj=>by
   obtain rfl:j=0:=by simp at hj;omega
   subst h;exact cell_one_new _ _ _ 0 _ rfl⟩
theorem qCa {xs:List Value} (h:w.ownsRow base 5 1 v n xs) (hb:Below B w w') (hB:w.heap.size≤B):w'.ownsRow base 5 1 v n xs:=
 h.kept (w':=w') (row:=none) ⟨hb.os,hb.tape,hb.output,hb.size,fun k hk _=>hb.block k (by omega)⟩ (by cases v.ownBlock<;>simp)
theorem Byt.below {B':Nat} (h:Byt (·<B) w A xs) (hb:Below B' w w') (hB:B≤B'):Byt (·<B) w' A xs:=h.keep fun b h1=>hb.block b (qBN h1 hB)
open Go.ChangeShapes Go.WideShapes Go.ChangeAt Go.RowKit
theorem own:ownKnob Tryz.prog.godebug=none:=by kernel_rfl
open Go.ChangeShapes Go.WideShapes Go.ChangeAt Go.RowKit
def vb (v:Nat):List Nat:=if v<128 then [v] else (v % 128+128)::vb (v / 128)
termination_by v
decreasing_by omega
theorem qCI (v:Nat) (h:v<128):vb v=[v]:=by rw[vb,if_pos h]
theorem qDG (v:Nat) (h:¬v<128):vb v=(v % 128+128)::vb (v / 128):=by rw[vb,if_neg h]
theorem qFU (v:Nat):0<(vb v).length:=by
 by_cases h:v<128
 · rw[qCI v h];simp
 · rw[qDG v h];simp
theorem qC2 (v:Nat):∀x∈vb v,x<256:=by
 induction v using Nat.strongRecOn with
 |_ v ih=>
  by_cases h:v<128
  · rw[qCI v h];intro x hx;simp at hx;omega
  · rw[qDG v h]
    intro x hx;rcases List.mem_cons.1 hx with rfl|hx
    · omega
    · exact ih (v / 128) (by omega) x hx
theorem qCq (k:Nat):∀v,v<128 ^ (k+1)→(vb v).length≤k+1:=by
 induction k with
 |zero=>intro v hv;rw[qCI v (by simpa using hv)];simp
 |succ k ih=>
  intro v hv
  by_cases h:v<128
  · rw[qCI v h];simp
  · rw[qDG v h,List.length_cons]
    have:v / 128<128 ^ (k+1):=Nat.div_lt_of_lt_mul (by rw[Nat.pow_succ] at hv;omega);have:=ih _ this
    omega
def sv:List Nat→Nat
 |[]=>0
 |x::r=>x % 128+128*sv r
theorem qMl (v:Nat):sv (vb v)=v:=by
 induction v using Nat.strongRecOn with
 |_ v ih=>
  by_cases h:v<128
  · rw[qCI v h];simp[sv];omega
  · rw[qDG v h,sv,ih (v / 128) (by omega)];omega
theorem vb_init (v:Nat):∀j,j+1<(vb v).length→128≤(vb v)[j]?.getD 0:=by
 induction v using Nat.strongRecOn with
 |_ v ih=>
  intro j hj
  by_cases h:v<128
  · rw[qCI v h] at hj;simp at hj
  · rw[qDG v h] at hj⊢
    cases j with
    |zero=>simp
    |succ j=>simp at hj ⊢;exact ih (v / 128) (by omega) j (by omega)
theorem vb_last (v:Nat):∀j,j+1=(vb v).length→(vb v)[j]?.getD 0<128∧((vb v)[j]?.getD 0=0→j=0):=by
 induction v using Nat.strongRecOn with
 |_ v ih=>
  intro j hj
  by_cases h:v<128
  · rw[qCI v h] at hj⊢
    have:j=0:=by simpa using hj
    subst this;simp;omega
  · rw[qDG v h] at hj⊢
    have hp:=qFU (v / 128)
    cases j with
    |zero=>simp at hj;rw[hj] at hp;simp at hp
    |succ j=>
     simp at hj⊢;obtain⟨h1,h2⟩:=ih (v / 128) (by omega) j (by omega);refine⟨h1,fun h0=> ?_⟩;have:=h2 h0;subst this;have e:=qMl (v / 128);obtain⟨y,hy⟩:=List.length_eq_one_iff.1 (show(vb (v / 128)).length=1 by omega);rw[hy] at e h0;simp[sv] at e h0
     omega
theorem vb_nth (k:Nat):∀v,(vb v).length=k+1→(vb v)[k]?.getD 0=v / 128 ^ k:=by
 induction k with
 |zero=>
  intro v hl
  by_cases h:v<128
  · rw[qCI v h];simp
  · rw[qDG v h] at hl;simp at hl;have:=qFU (v / 128);rw[hl] at this;simp at this
 |succ k ih=>
  intro v hl
  by_cases h:v<128
  · rw[qCI v h] at hl;simp at hl
  · rw[qDG v h] at hl⊢
    simp at hl⊢;rw[ih _ hl,Nat.div_div_eq_div_mul,Nat.pow_succ,Nat.mul_comm]
theorem vb_back (xs:List Nat) (y:Nat) (hy:y<128) (h:∀x∈xs,128≤x∧x<256) (h0:y=0→xs=[]):vb (sv (xs++[y]))=xs++[y]:=by
 induction xs with
 |nil=>simp[sv];rw[Nat.mod_eq_of_lt hy];exact qCI y hy
 |cons x xs ih=>
  have hx:=h x (by simp);have hpos:0<sv (xs++[y]):=by
   rcases Nat.eq_zero_or_pos (sv (xs++[y])) with e|e
   · exfalso
     by_cases hz:y=0
     · have:=h0 hz;simp at this
     · have ih':=ih (fun z hz=>h z (by simp[hz])) (fun e=>absurd e hz)
       rw[e,qCI 0 (by omega)] at ih'
       cases xs with
       |nil=>simp at ih';omega
       |cons a b=>simp at ih'
   · exact e
  have ih':=ih (fun z hz=>h z (by simp[hz])) (fun e=>by have:=h0 e;simp at this);simp only[List.cons_append,sv];rw[qDG _ (by omega)];have e1:(x % 128+128*sv (xs++[y])) % 128+128=x:=by omega
  have e2:(x % 128+128*sv (xs++[y])) / 128=sv (xs++[y]):=by omega
  rw[e1,e2,ih']
theorem sv_lt (xs:List Nat):sv xs<128 ^ xs.length:=by
 induction xs with
 |nil=>simp[sv]
 |cons x xs ih=>simp only[sv,List.length_cons,Nat.pow_succ];omega
theorem sv_snoc (xs:List Nat) (y:Nat):sv (xs++[y])=sv xs+y % 128*128 ^ xs.length:=by
 induction xs with
 |nil=>simp[sv]
 |cons x xs ih=>
  simp only[List.cons_append,sv,ih,List.length_cons,Nat.pow_succ,Nat.mul_add,Nat.add_assoc]
  congr 2
  rw[Nat.mul_comm 128,Nat.mul_assoc]
def B64:Nat:=18446744073709551616
def IsVar (xs:List Nat) (v n:Nat):Prop:=n≤xs.length∧xs.take n=vb v∧v<B64
theorem qFX (xs:List Nat) (n j:Nat) (h:j<n):(xs.take n)[j]?.getD 0=xs[j]?.getD 0:=by rw[List.getElem?_take_of_lt h]
theorem IsVar.len {v:Nat} (h:IsVar xs v n):n=(vb v).length:=by
 rw[←h.2.1,List.length_take];have:=h.1;omega
theorem IsVar.pos {v:Nat} (h:IsVar xs v n):0<n:=by rw[h.len];exact qFU v
theorem IsVar.le10 {v:Nat} (h:IsVar xs v n):n≤10:=by
 rw[h.len];exact qCq 9 v (by have:=h.2.2;unfold B64 at this;omega)
theorem IsVar.init {v:Nat} (h:IsVar xs v n) (j:Nat) (hj:j+1<n):128≤xs[j]?.getD 0:=by
 rw[←qFX xs n j (by omega),h.2.1];exact vb_init v j (by rw[←h.len];exact hj)
theorem IsVar.last {v:Nat} (h:IsVar xs v n) (j:Nat) (hj:j+1=n):xs[j]?.getD 0<128∧(xs[j]?.getD 0=0→j=0):=by
 rw[←qFX xs n j (by omega),h.2.1];exact vb_last v j (by rw[←h.len];exact hj)
theorem IsVar.tenth {v:Nat} (h:IsVar xs v 10):xs[9]?.getD 0≤1:=by
 rw[←qFX xs 10 9 (by omega),h.2.1,vb_nth 9 v h.len.symm];have:=h.2.2;unfold B64 at this
 omega
def More (xs:List Nat) (i:Nat):Prop:=i≤xs.length∧∀j,j<i→128≤xs[j]?.getD 0
theorem More.zero (xs:List Nat):More xs 0:=⟨qBU _,fun j hj=>absurd hj (by omega)⟩
theorem More.succ (h:More xs i) (hi:i<xs.length) (hx:128≤xs[i]?.getD 0):More xs (i+1):=
 ⟨hi,fun j hj=>by rcases Nat.lt_or_ge j i with hji|hji;exact h.2 j hji;obtain rfl:j=i:=by omega
                  exact hx⟩
theorem More.past {v:Nat} (h:More xs i) (hv:IsVar xs v n):i<n:=by
 rcases Nat.lt_or_ge i n with h1|h1
 · exact h1
 · have hp:=hv.pos
   have:=h.2 (n-1) (by omega);have:=(hv.last (n-1) (by omega)).1
   omega
theorem no_end (h:More xs i) (hi:i=xs.length∨10≤i):¬∃v n,IsVar xs v n:=by
 rintro⟨v,n,hv⟩;have h1:=h.past hv;have h2:=hv.1;have h3:=hv.le10
 omega
theorem qNU (h:More xs 9) (hx:1<xs[9]?.getD 0):¬∃v n,IsVar xs v n:=by
 rintro⟨v,n,hv⟩;have h1:=h.past hv;have h3:=hv.le10;obtain rfl:n=10:=by omega
 have:=hv.tenth
 omega
theorem qKz (h:More xs i) (hi:0<i) (hx:xs[i]?.getD 0=0):¬∃v n,IsVar xs v n:=by
 rintro⟨v,n,hv⟩;have h1:=h.past hv;rcases Nat.lt_or_ge (i+1) n with h2|h2
 · have:=hv.init i h2
   omega
 · have:=(hv.last i (by omega)).2 hx
   omega
theorem qEG (xs:List Nat) (i:Nat) (hi:i<xs.length):xs.take (i+1)=xs.take i++[xs[i]?.getD 0]:=by
 rw[qBW hi];simp[hi]
theorem qKj (xs:List Nat) (i:Nat) (hi:i<xs.length):sv (xs.take (i+1))=sv (xs.take i)+xs[i]?.getD 0 % 128*128 ^ i:=by
 rw[qEG xs i hi,sv_snoc,List.length_take,Nat.min_eq_left (by omega)]
theorem qHI (xs:List Nat) (i:Nat) (hi:i≤xs.length):sv (xs.take i)<128 ^ i:=by
 have:=sv_lt (xs.take i)
 rwa [List.length_take,Nat.min_eq_left hi] at this
theorem qNF (i:Nat) (hi:i≤9):128 ^ i≤9223372036854775808:=by
 have:128 ^ i≤128 ^ 9:=Nat.pow_le_pow_right (by omega) hi;simpa using this
theorem qHC (hb:∀x∈xs,x<256) (h:More xs i) (hi:i<xs.length) (hi9:i≤9) (hx:xs[i]?.getD 0<128) (h0:¬(xs[i]?.getD 0=0∧0<i)) (h9:i=9→xs[i]?.getD 0≤1):
 IsVar xs (sv (xs.take (i+1))) (i+1):=by
 refine⟨hi,?_,?_⟩
 · rw[qEG xs i hi]
   refine(vb_back _ _ hx (fun x hx'=> ?_) (fun e=> ?_)).symm
   · obtain⟨j,hj,rfl⟩:=List.mem_iff_getElem.1 hx'
     have hj':j<i:=by simp at hj;omega
     have:=h.2 j hj';rw[List.getElem_take];simp[show j<xs.length by omega] at this;exact⟨this,hb _ (List.getElem_mem _)⟩
   · have:i=0:=by
      rcases Nat.eq_zero_or_pos i with h|h
      · exact h
      · exact absurd ⟨e,h⟩ h0
     subst this;simp
 · rw[qKj xs i hi,Nat.mod_eq_of_lt hx]
   have h1:=qHI xs i h.1;unfold B64;rcases Nat.lt_or_ge i 9 with h2|h2
   · have h3:128 ^ (i+1)≤9223372036854775808:=qNF (i+1) (by omega)
     have h4:xs[i]?.getD 0*128 ^ i≤127*128 ^ i:=Nat.mul_le_mul_right _ (by omega);rw[Nat.pow_succ] at h3
     omega
   · obtain rfl:i=9:=by omega
     have:=h9 rfl;have h4:xs[9]?.getD 0*128 ^ 9≤1*128 ^ 9:=Nat.mul_le_mul_right _ this;have h5:(128:Nat) ^ 9=9223372036854775808:=by decide
     omega
theorem qCF {v v' n':Nat} (h:IsVar xs v n) (h':IsVar xs v' n'):v=v'∧n=n':=by
 have hn:n=n':=by
  have p1:=h.pos;have p2:=h'.pos;rcases Nat.lt_trichotomy n n' with e|e|e
  · have:=h'.init (n-1) (by omega)
    have:=(h.last (n-1) (by omega)).1
    omega
  · exact e
  · have:=h.init (n'-1) (by omega)
    have:=(h'.last (n'-1) (by omega)).1
    omega
 subst hn;refine⟨?_,rfl⟩;rw[←qMl v,←qMl v',←h.2.1,←h'.2.1]
theorem qCB (v:Nat) (hv:v<B64) (r:List Nat):IsVar (vb v++r) v (vb v).length:=⟨by simp,by simp,hv⟩
theorem qCT (w:World) (t:TypeId) (cs:Array Value):Blk (w.alloc (.cells cs t)) w.heap.size t cs:=heap_alloc_new w _
theorem qBp {b:Nat} (h:Only g w w') (hb:Blk w b t cs) (hne:b≠g):Blk w' b t cs:=(h.block b hb.lt (fun e=>hne (by injection e))).trans hb
theorem qB7 {b b':Nat} (hb:Blk w b t cs) (u:Value) (hne:b≠b'):Blk (w.setCell ⟨b',i,none⟩ u) b t cs:=(qBP _ _ _ _ hne).trans hb
structure Lay (α:Type) where
 k:Nat
 R:(Nat→Prop)→World→List Value→α→Prop
 len:∀{S w cs x},R S w cs x→cs.length=k
 keep:∀{S:Nat→Prop} {w w':World} {cs:List Value} {x:α},R S w cs x→(∀b,S b→w'.heap[b]? =w.heap[b]?)→R S w' cs x
 wide:∀{S T:Nat→Prop} {w:World} {cs:List Value} {x:α},R S w cs x→(∀b,S b→T b)→R T w cs x
 one:∀{S w cs x},R S w cs x→∀u∈cs,u.oneCell'=true
def Sq {α:Type} (L:Lay α) (S:Nat→Prop) (w:World) (A:Option Addr) (xs:List α):Prop:=
 0<xs.length→∃a,A=some a∧S a.block∧∀j x,xs[j]? =some x→∃cs,(∀i u,cs[i]? =some u→w.cell? (a.add (j*L.k+i))=some u)∧L.R S w cs x
theorem Sq.nil (L:Lay α) (S:Nat→Prop) (w:World) (A:Option Addr):Sq L S w A []:=fun h=>absurd h (by simp)
theorem Sq.keep {L:Lay α} {xs:List α} (h:Sq L S w A xs) (hk:∀b,S b→w'.heap[b]? =w.heap[b]?):Sq L S w' A xs:=fun hn=>by
 obtain⟨a,e,hs,hc⟩:=h hn;refine⟨a,e,hs,fun j x hx=> ?_⟩;obtain⟨cs,h1,h2⟩:=hc j x hx;exact⟨cs,fun i u hu=>(qBd (hk _ zv)).trans (h1 i u hu),L.keep h2 hk⟩
theorem Sq.wide {L:Lay α} {T:Nat→Prop} {xs:List α} (h:Sq L S w A xs) (hk:∀b,S b→T b):Sq L T w A xs:=fun hn=>by
 obtain⟨a,e,hs,hc⟩:=h hn;refine⟨a,e,hk _ hs,fun j x hx=> ?_⟩;obtain⟨cs,h1,h2⟩:=hc j x hx;exact⟨cs,h1,L.wide h2 hk⟩
theorem Sq.below {L:Lay α} {B':Nat} {xs:List α} (h:Sq L (·<B) w A xs) (hb:Below B' w w') (hB:B≤B'):Sq L (·<B) w' A xs:=h.keep fun b h1=>hb.block b (qBN h1 hB)
theorem Sq.at {L:Lay α} {xs:List α} (h:Sq L S w A xs) (hk:xs[k]? =some x):
 ∃a cs,A=some a∧S a.block∧(∀i u,cs[i]? =some u→w.cell? (a.add (k*L.k+i))=some u)∧L.R S w cs x:=by
 obtain⟨a,e,hs,hc⟩:=h (by have:=(qBM.1 hk).1;omega);obtain⟨cs,h1,h2⟩:=hc k x hk;exact⟨a,cs,e,hs,h1,h2⟩
def slL {α:Type} (L:Lay α):Lay (List α) where
 k:=1
 R S w cs xs:=∃A c,cs=[.slice A xs.length c]∧xs.length≤c∧c≤maxLen∧Sq L S w A xs
 len:=by rintro S w cs x ⟨A,c,rfl,_⟩;rfl
 keep:=by rintro S w w' cs x ⟨A,c,rfl,h1,h2,h3⟩ hk;exact⟨A,c,rfl,h1,h2,h3.keep hk⟩
 wide:=by rintro S T w cs x ⟨A,c,rfl,h1,h2,h3⟩ hk;exact⟨A,c,rfl,h1,h2,h3.wide hk⟩
 one:=by rintro S w cs x ⟨A,c,rfl,_⟩ u hu;simp at hu;subst hu;rfl
def I64 (n:Int):Prop:= -9223372036854775808≤n∧n≤9223372036854775807
def numL:Lay Nat where
 k:=1
 R _ _ cs n:=cs=[.int .u64 (n:Int)]∧n<B64
 len:=by rintro S w cs x ⟨rfl,_⟩;rfl
 keep:=by rintro S w w' cs x h _;exact h
 wide:=by rintro S T w cs x h _;exact h
 one:=by rintro S w cs x ⟨rfl,_⟩ u hu;simp at hu;subst hu;rfl
def Owns {α:Type} (L:Lay α) (ty base:Nat) (w:World) (v:Value) (xs:List α):Prop:=
 ∃css:List (List Value),css.length=xs.length∧w.ownsRow base ty L.k v xs.length css.flatten∧
  ∀(j:Nat) (x:α) (cs:List Value),xs[j]? =some x→css[j]? =some cs→L.R (fun b=>base≤b∧b<w.heap.size∧v.ownBlock≠some b) w cs x
theorem Owns.nil (L:Lay α) (ty base:Nat) (w:World):Owns L ty base w (.slice none 0 0) ([]:List α):=
 ⟨[],rfl,World.ownsRow_nil _ _ _ _,fun j x cs h=>by simp at h⟩
theorem qCf (hk:∀cs∈css,cs.length=k) {j:Nat} {cs:List Value} (hj:css[j]? =some cs) (i:Nat) (hi:i<k):css.flatten[j*k+i]? =cs[i]? :=by
 induction css generalizing j with
 |nil=>simp at hj
 |cons c css ih=>
  have hc:=hk c (by simp)
  cases j with
  |zero=>
   simp at hj;subst hj;rw[List.flatten_cons,List.getElem?_append_left (by omega)];simp
  |succ j=>
   rw[List.flatten_cons,List.getElem?_append_right (by rw[hc,Nat.succ_mul];omega),hc,show(j+1)*k+i-k=j*k+i by rw[Nat.succ_mul];omega];exact ih (fun x hx=>hk x zN) (by simpa using hj)
theorem Owns.slice {L:Lay α} {xs:List α} (h:Owns L ty base w v xs):
 (slL L).R (fun b=>base≤b∧b<w.heap.size) w [v] xs:=by
 obtain⟨css,hl,hown,hR⟩:=h;have hk:∀cs∈css,cs.length=L.k:=fun cs hcs=>by
  refine qAJ ?_;intro j hj hjl;exact L.len (hR j _ cs (List.getElem?_eq_getElem hjl) hj)
 rcases hown.2 with⟨rfl,h0⟩|⟨g,cap,cur,rfl,hb,hg,hnc,hcm,_,_⟩
 · exact qt
 · refine⟨some ⟨g,0,none⟩,cap,rfl,hnc,hcm,fun _=>⟨⟨g,0,none⟩,rfl,⟨hb,(Array.getElem?_eq_some_iff.1 hg).1⟩,fun j x hx=> ?_⟩⟩
   refine qAz ?_;intro hjl hcs;have hr:=hR j x _ hx hcs;refine⟨_,fun i u hu=> ?_,L.wide hr fun b hb=>⟨hb.1,hb.2.1⟩⟩;exact zl
theorem Owns.lt {L:Lay α} {xs:List α} (h:Owns L ty base w v xs):∀i,v.ownBlock=some i→base≤i∧i<w.heap.size:=by
 obtain⟨css,hl,hown,hR⟩:=h;exact fun i hi=>⟨(hown.lt i hi).1,(hown.lt i hi).2⟩
theorem Owns.kept {L:Lay α} {xs:List α} (h:Owns L ty base w v xs) (hg:g<base) (ho:Only g w w'):Owns L ty base w' v xs:=by
 have hlt:=h.lt;obtain⟨css,hl,hown,hR⟩:=h;refine⟨css,hl,hown.kept (row:=some g) ho (.inr fun e=>by have:=hlt g e;omega),fun j x cs h1 h2=> ?_⟩;refine L.wide (L.keep (hR j x cs h1 h2) fun b hb=>ho.block b hb.2.1 (fun e=>by injection e;omega)) fun b hb=>⟨hb.1,qBN hb.2.1 ho.size,hb.2.2⟩
def vOne:List Value→Value
 |[v]=>v
 |_=> .nilFunc
def vAgg (cs:List Value):Value:= .agg cs.toArray
def Tells (b:Bool) (w:World) (e:Ending) (w':World):Prop:=e= .returned (.bool b)∧Below w.heap.size w w'
theorem qOo {g:α→Bool} {xs:List α} (h:(xs.take k).all g=true) (hx:xs[k]? =some x) (hg:g x=true):(xs.take (k+1)).all g=true:=by
 obtain⟨hk,rfl⟩:=qBM.1 hx;rw[qBW hk,List.all_append,h];simp[hg]
theorem qB9 {a:Addr} {K:Nat} {o:Option Value} (hK:K=1) (h:w.cell? (a.add (k*K+0))=o):w.cell? (a.add k)=o:=by
 subst hK;simpa using h
theorem qD2 {xs ys:List α} {y:α} (h:xs.take k=ys.take k) (hx:xs[k]? =some x) (hy:ys[k]? =some y) (e:x=y):xs.take (k+1)=ys.take (k+1):=by
 obtain⟨hk,rfl⟩:=qBM.1 hx;obtain⟨hk2,rfl⟩:=qBM.1 hy;rw[qBW hk,qBW hk2,h,e]
theorem qHc {xs ys:List α} {y:α} (hx:xs[k]? =some x) (hy:ys[k]? =some y) (e:¬x=y):xs≠ys:=by
 rintro rfl;rw[hx] at hy;exact e (Option.some.inj hy)
theorem qBT (a:Addr) (m i:Nat) (hi:0<i):a.add (m+i)=⟨(a.add m).block,(a.add m).off+i,none⟩:=by
 rw[←qET];generalize a.add m=x;have:i≠0:=by omega
 simp[Addr.add,this]
theorem qCg (w:World) (t:TypeId) (cs:List Value):∀j u,cs[j]? =some u→(w.alloc (.cells cs.toArray t)).cell? ((⟨w.heap.size,0,none⟩:Addr).add j)=some u:=fun j u hu=>by
 have e:(⟨w.heap.size,0,none⟩:Addr).add j=⟨w.heap.size,j,none⟩:=by unfold Addr.add;split<;>simp_all
 rw[e,World.cell?_alloc_mark];simpa using hu
theorem qDy {row:Option Nat} (hg:w.grownBy w' row) (hB:B≤w.heap.size) (hr:∀i,row=some i→B≤i):Below B w w':=(qBO B w).grown hg hB hr
theorem qBj (w:World) (q:Nat):Below w.heap.size w (w.drewN q):=⟨rfl,rfl,rfl,qBL _,fun _ _=>rfl⟩
theorem qEj {w1:World} (h:Below B w w1) (q:Nat) (hB:B≤w1.heap.size):Below B w (w1.drewN q):=h.trans ((qBj w1 q).mono hB)
theorem qBc {v:World} {o:Obj} {b t:Nat} (h:Blk v b t c):Blk (v.alloc o) b t c:=(qBX v o b h.lt).trans h
theorem qBl {v:World} {b t:Nat} (h:v.heap.size=b):Blk (v.alloc (.cells c t)) b t c:=by rw[←h];exact qCT v t c
theorem qBf {v:World} {b t:Nat} (h:Blk v b t c) (hb:Below B v w) (hB:b<B):Blk w b t c:=(hb.block b hB).trans h
theorem qG6 {v:World} {b t:Nat} {u:Value} (h:Blk v b t c) (hne:b≠g):Blk (v.setCell ⟨g,i,none⟩ u) b t c:=(qBP v ⟨g,i,none⟩ u b hne).trans h
theorem qFH (k:Nat) (w:World) {a:Act} {Q:Exit→Act→World→Prop} (hgd:o.guard=none) (s x:Operand) (T E:TypeId)
 (ho:o.op= .call {callee:= .builtin .append,args:= #[s,x],argTypes:= #[T,T]})
 (z:Value) (B:Nat) (hT:Tryz.prog.underlying T=some (.slice E)) (hI:(Tryz.prog.info? E).map (fun i=>(i.zero,i.size,i.bytes))=some (some z,k,B)) (hz:z.cells.size=k) (hk:0<k) (hB:B≤100)
 (base:Nat) (v:Value) (n:Nat) (cs:List Value) (hs:a.eval s=v) (hO:w.ownsRow base E k v n cs) (ad:Addr) (d:Nat) (hx:a.eval x= .slice (some ad) 1 d) (ys:List Value) (hl:ys.length=k)
 (hc:∀j u,ys[j]? =some u→w.cell? (ad.add j)=some u) (hone:∀u∈ys,u.oneCell'=true) (hbig:n≤1000000) (hbase:base≤w.heap.size)
 (h:∀v' w',w'.ownsRow base E k v' (n+1) (cs++ys)→w.grownBy w' v.ownBlock→(v'.ownBlock=v.ownBlock∨v'.ownBlock=some w.heap.size)→wpList Tryz.prog ops Q rest (a.put o.dst v') w'):wpList Tryz.prog ops Q (o::rest) a w:=by
 refine wpList_plain hgd fun _ hK=> ?_;obtain⟨i0,hi0,hz0,hz1,hz2⟩:=info_parts hI;have hBx:(n+1)*B≤140737488355328:=by
  have:=Nat.mul_le_mul (show n+1≤1000001 by omega) hB
  omega
 obtain⟨v',w',hrun,h2,h3,_,h5⟩:=run_append_own_at (P:=Tryz.prog) w base T o.type E i0 z k B hT hi0 hz0 hz1 hz2 hz hk v n cs hO ad 1 d ys (by rw[hl,Nat.one_mul]) hc hone
  zM hBx hbase
 unfold Oper.wp execOp;simp only[ho,resolve,invoke,builtin,Sem.run_bind,Sem.run_pure,Result.andThen_ok,List.map_toArray,List.map_cons,List.map_nil,hs,hx,hrun];exact hK _ _ (h v' w' h2 h3 h5)
theorem raw_sl {L:Lay α} {xs:List α} (hl:css.length=xs.length) (hown:w.ownsRow base ty L.k v xs.length css.flatten)
 (hR:∀(j:Nat) (x:α) (cs:List Value),xs[j]? =some x→css[j]? =some cs→L.R S w cs x) (hS:∀b,base≤b→b<w.heap.size→S b):(slL L).R S w [v] xs:=by
 have hk:∀cs∈css,cs.length=L.k:=fun cs hcs=>by
  refine qAJ ?_;intro j hj hjl;exact L.len (hR j _ cs (List.getElem?_eq_getElem hjl) hj)
 rcases hown.2 with⟨rfl,h0⟩|⟨g,cap,cur,rfl,hb,hg,hnc,hcm,_,_⟩
 · exact qt
 · refine⟨some ⟨g,0,none⟩,cap,rfl,hnc,hcm,fun _=>⟨⟨g,0,none⟩,rfl,hS _ hb (Array.getElem?_eq_some_iff.1 hg).1,fun j x hx=> ?_⟩⟩
   refine qAz ?_;intro hjl hcs;have hr:=hR j x _ hx hcs;refine⟨_,fun i u hu=> ?_,hr⟩;exact zl
theorem one_sl {L:Lay α} (h:Blk w g ty cs) (hg:S g) (hR:L.R S w cs.toList x):(slL L).R S w [.slice (some ⟨g,0,none⟩) 1 1] [x]:=by
 refine⟨some ⟨g,0,none⟩,1,rfl,qBL _,by simp[maxLen],fun _=>⟨_,rfl,hg,fun j y hy=> ?_⟩⟩;have hj:j=0:=by
  rcases Nat.eq_zero_or_pos j with h|h
  · exact h
  · rw[List.getElem?_eq_none qK] at hy
    cases hy
 subst hj;simp at hy;subst hy;refine⟨_,fun i u hu=> ?_,hR⟩;have e:(⟨g,0,none⟩:Addr).add (0*L.k+i)=⟨g,i,none⟩:=by unfold Addr.add;split<;>simp_all
 rw[e,h.cell i];simpa using hu
theorem qFo (L:Lay α) (S:Nat→Prop) (w:World):(slL L).R S w [.slice none 0 0] []:=⟨none,0,rfl,qBL _,by simp[maxLen],Sq.nil _ _ _ _⟩
theorem qGe {xs:List Value} (h:w.ownsRow base ty k v n xs) (hb:Below B w w') (hB:w.heap.size≤B):w'.ownsRow base ty k v n xs:=
 h.kept (w':=w') (row:=none) ⟨hb.os,hb.tape,hb.output,hb.size,fun k hk _=>hb.block k (by omega)⟩ (by cases v.ownBlock<;>simp)
theorem qGd {xs:List Value} (h:w.ownsRow base ty k v n xs):∃A m c,v= .slice A m c:=by
 rcases h.2 with⟨rfl,-⟩|⟨g,cap,cur,rfl,-⟩
 · exact⟨_,_,_,rfl⟩
 · exact⟨_,_,_,rfl⟩
theorem Owns.push {L:Lay α} {v':Value} {xs:List α} {cs:List Value} (hl:css.length=xs.length)
 (hR:∀(j:Nat) (x:α) (cs:List Value),xs[j]? =some x→css[j]? =some cs→L.R (fun b=>base≤b∧b<w.heap.size∧v.ownBlock≠some b) w cs x)
 (hx:L.R (fun b=>base≤b∧b<w.heap.size∧v.ownBlock≠some b) w cs x) (hown:w'.ownsRow base ty L.k v' (xs.length+1) (css.flatten++cs)) (hg:w.grownBy w' v.ownBlock)
 (hv:v'.ownBlock=v.ownBlock∨v'.ownBlock=some w.heap.size):Owns L ty base w' v' (xs++[x]):=by
 have hk:∀{cs:List Value} {x:α},L.R (fun b=>base≤b∧b<w.heap.size∧v.ownBlock≠some b) w cs x→L.R (fun b=>base≤b∧b<w'.heap.size∧v'.ownBlock≠some b) w' cs x:=fun h=>
  L.wide (L.keep h fun b hb=>hg.block b hb.2.1 (fun e=>hb.2.2 e.symm)) fun b hb=>⟨hb.1,qBN hb.2.1 hg.size,by
   rcases hv with e|e
   · rw[e];exact hb.2.2
   · rw[e];intro e2;injection e2 with e2;omega⟩
 refine⟨css++[cs],by simp[hl],by simpa using hown,fun j y ds h1 h2=> ?_⟩;rcases Nat.lt_or_ge j xs.length with hj|hj
 · rw[List.getElem?_append_left hj] at h1
   rw[List.getElem?_append_left (by omega)] at h2;exact hk (hR j y ds h1 h2)
 · rw[List.getElem?_append_right hj] at h1
   rw[List.getElem?_append_right (by omega),hl] at h2;have e0:j-xs.length=0:=by
    rcases Nat.eq_zero_or_pos (j-xs.length) with h|h
    · exact h
    · rw[List.getElem?_eq_none qK] at h1
      cases h1
   rw[e0] at h1 h2;simp at h1 h2;subst h1 h2;exact hk hx
theorem qB5 (L:Lay α) (w:World) {a:Act} {Q:Exit→Act→World→Prop} (hgd:o.guard=none) (s x:Operand) (T E:TypeId)
 (ho:o.op= .call {callee:= .builtin .append,args:= #[s,x],argTypes:= #[T,T]})
 (z:Value) (B:Nat) (hT:Tryz.prog.underlying T=some (.slice E)) (hI:(Tryz.prog.info? E).map (fun i=>(i.zero,i.size,i.bytes))=some (some z,L.k,B)) (hz:z.cells.size=L.k) (hk:0<L.k) (hB:B≤100)
 (base:Nat) (v:Value) (xs:List α) (hs:a.eval s=v) (hO:Owns L E base w v xs) (ad:Addr) (d:Nat) (hx:a.eval x= .slice (some ad) 1 d) (cs:List Value) (y:α)
 (hc:∀j u,cs[j]? =some u→w.cell? (ad.add j)=some u) (hR:L.R (fun b=>base≤b∧b<w.heap.size∧v.ownBlock≠some b) w cs y) (hbig:xs.length≤1000000) (hbase:base≤w.heap.size)
 (h:∀v' w',Owns L E base w' v' (xs++[y])→w.grownBy w' v.ownBlock→wpList Tryz.prog ops Q rest (a.put o.dst v') w'):wpList Tryz.prog ops Q (o::rest) a w:=by
 refine wpList_plain hgd fun _ hK=> ?_;obtain⟨i0,hi0,hz0,hz1,hz2⟩:=info_parts hI;obtain⟨css,hl,hown,hRs⟩:=hO;have hBx:(xs.length+1)*B≤140737488355328:=by
  have:=Nat.mul_le_mul (show xs.length+1≤1000001 by omega) hB
  omega
 obtain⟨v',w',hrun,h2,h3,_,h5⟩:=run_append_own_at (P:=Tryz.prog) w base T o.type E i0 z L.k B hT hi0 hz0 hz1 hz2 hz hk v xs.length css.flatten hown ad 1 d cs (by rw[L.len hR,Nat.one_mul]) hc (L.one hR)
  zM hBx hbase
 unfold Oper.wp execOp;simp only[ho,resolve,invoke,builtin,Sem.run_bind,Sem.run_pure,Result.andThen_ok,List.map_toArray,List.map_cons,List.map_nil,hs,hx,hrun];exact hK _ _ (h v' w' (Owns.push hl hRs hR h2 h3 h5) h3)
theorem qFI (L:Lay α) (w:World) {a:Act} {Q:Exit→Act→World→Prop} (hgd:o.guard=none) (s x:Operand) (T E:TypeId)
 (ho:o.op= .call {callee:= .builtin .append,args:= #[s,x],argTypes:= #[T,T]})
 (z:Value) (B:Nat) (hT:Tryz.prog.underlying T=some (.slice E)) (hI:(Tryz.prog.info? E).map (fun i=>(i.zero,i.size,i.bytes))=some (some z,L.k,B)) (hz:z.cells.size=L.k) (hk:0<L.k) (hB:B≤100)
 (base:Nat) (v:Value) (xs:List α) (hs:a.eval s=v) (hO:Owns L E base w v xs) (ad:Addr) (d:Nat) (hx:a.eval x= .slice (some ad) 1 d) (cs:List Value) (y:α)
 (hc:∀j u,cs[j]? =some u→w.cell? (ad.add j)=some u) (hR:L.R (fun b=>base≤b∧b<w.heap.size∧v.ownBlock≠some b) w cs y) (hbig:xs.length≤1000000) (hbase:base≤w.heap.size)
 (h:∀v' w',Owns L E base w' v' (xs++[y])→w.grownBy w' v.ownBlock→(v'.ownBlock=v.ownBlock∨v'.ownBlock=some w.heap.size)→wpList Tryz.prog ops Q rest (a.put o.dst v') w'):wpList Tryz.prog ops Q (o::rest) a w:=by
 refine wpList_plain hgd fun _ hK=> ?_;obtain⟨i0,hi0,hz0,hz1,hz2⟩:=info_parts hI;obtain⟨css,hl,hown,hRs⟩:=hO;have hBx:(xs.length+1)*B≤140737488355328:=by
  have:=Nat.mul_le_mul (show xs.length+1≤1000001 by omega) hB
  omega
 obtain⟨v',w',hrun,h2,h3,_,h5⟩:=run_append_own_at (P:=Tryz.prog) w base T o.type E i0 z L.k B hT hi0 hz0 hz1 hz2 hz hk v xs.length css.flatten hown ad 1 d cs (by rw[L.len hR,Nat.one_mul]) hc (L.one hR)
  zM hBx hbase
 unfold Oper.wp execOp;simp only[ho,resolve,invoke,builtin,Sem.run_bind,Sem.run_pure,Result.andThen_ok,List.map_toArray,List.map_cons,List.map_nil,hs,hx,hrun];exact hK _ _ (h v' w' (Owns.push hl hRs hR h2 h3 h5) h3 h5)
theorem qJo {w0:World} {row:Option Nat} (h:Only g w0 w) (hg:w.grownBy w' row) (hr:∀i,row=some i→w0.heap.size≤i):Only g w0 w':=
 ⟨hg.os.trans h.os,hg.tape.trans h.tape,hg.output.trans h.output,qBZ h.size hg.size,fun i hi hne=>(hg.block i (qBN hi h.size) (fun e=>by have:=hr i e.symm;omega)).trans (h.block i hi hne)⟩
theorem Owns.turn {L L':Lay α} {xs:List α} (h:Owns L ty base w v xs) (hk:L'.k=L.k) (hR:∀cs x,x∈xs→L.R (fun b=>base≤b∧b<w.heap.size∧v.ownBlock≠some b) w cs x→L'.R (fun b=>base≤b∧b<w.heap.size∧v.ownBlock≠some b) w cs x):Owns L' ty base w v xs:=by
 obtain⟨css,hl,hown,hr⟩:=h;exact⟨css,hl,by rw[hk];exact hown,fun j x cs h1 h2=>hR cs x (qBQ h1) (hr j x cs h1 h2)⟩
theorem Owns.below {L:Lay α} {xs:List α} (h:Owns L ty base w v xs) (hb:Below w.heap.size w w'):Owns L ty base w' v xs:=by
 obtain⟨css,hl,hown,hR⟩:=h;exact⟨css,hl,qGe hown hb (qBL _),fun j x cs h1 h2=>L.wide (L.keep (hR j x cs h1 h2) fun b hb2=>hb.block b hb2.2.1) fun b hb2=>⟨hb2.1,qBN hb2.2.1 hb.size,hb2.2.2⟩⟩
theorem qI5 (hk:∀cs∈css,cs.length=k):css.flatten.length=css.length*k:=by
 induction css with
 |nil=>simp
 |cons c css ih=>
  rw[List.flatten_cons,List.length_append,hk c (by simp),ih fun x hx=>hk x zN,List.length_cons,Nat.add_mul]
  omega
theorem sq_css {La:Lay α} {a:Addr} {xs:List α} (hk:0<La.k) (h:Sq La S w (some a) xs):
 ∃css:List (List Value),css.length=xs.length∧(∀(j:Nat) (x:α) (cs:List Value),xs[j]? =some x→css[j]? =some cs→La.R S w cs x)∧(∀(j:Nat) (u:Value),css.flatten[j]? =some u→w.cell? (a.add j)=some u)∧(∀u∈css.flatten,u.oneCell'=true)∧css.flatten.length=xs.length*La.k:=by
 have hex:∀j:Fin xs.length,∃cs:List Value,(∀i u,cs[i]? =some u→w.cell? (a.add (j.1*La.k+i))=some u)∧La.R S w cs xs[j.1]:=fun j=>by
  obtain⟨a',cs,e,hs,hc,hr⟩:=h.at (List.getElem?_eq_getElem j.2);injection e with e;subst e;exact⟨cs,hc,hr⟩
 obtain⟨css,hl,hget⟩:∃css:List (List Value),css.length=xs.length∧∀(j:Nat) (x:α) (cs:List Value),xs[j]? =some x→css[j]? =some cs→(∀i u,cs[i]? =some u→w.cell? (a.add (j*La.k+i))=some u)∧La.R S w cs x:=by
  refine⟨List.ofFn fun j=>Classical.choose (hex j),by simp,fun j x cs h1 h2=> ?_⟩;obtain⟨hj,e1⟩:=qBM.1 h1;obtain⟨hj2,e2⟩:=qBM.1 h2;rw[List.getElem_ofFn] at e2;subst e1 e2;exact Classical.choose_spec (hex ⟨j,hj⟩)
 have hlen:∀cs∈css,cs.length=La.k:=fun cs hcs=>by
  refine qAJ ?_;intro j hj hjl;exact La.len (hget j _ cs (List.getElem?_eq_getElem hjl) hj).2
 have hfl:css.flatten.length=xs.length*La.k:=by rw[qI5 hlen,hl]
 refine⟨css,hl,fun j x cs h1 h2=>(hget j x cs h1 h2).2,fun j u hu=> ?_,fun u hu=> ?_,hfl⟩
 · have hj:=(qBM.1 hu).1
   rw[hfl] at hj;have hq:j / La.k<xs.length:=(Nat.div_lt_iff_lt_mul hk).2 hj;have hr:j % La.k<La.k:=Nat.mod_lt _ hk;have hcs:css[j / La.k]? =some (css[j / La.k]'(by omega)):=List.getElem?_eq_getElem _;have e:j / La.k*La.k+j % La.k=j:=by rw[Nat.mul_comm];exact Nat.div_add_mod j La.k
   have hf:=qCf hlen hcs (j % La.k) hr;rw[e] at hf;rw[hf] at hu;have:=(hget _ _ _ (List.getElem?_eq_getElem hq) hcs).1 _ u hu
   rwa [e] at this
 · obtain⟨cs,hcs,hu⟩:=List.mem_flatten.1 hu
   refine qAJ ?_;intro j hj hjl;exact La.one (hget j _ cs (List.getElem?_eq_getElem hjl) hj).2 u hu
theorem qCH (La:Lay α) (w:World) {a:Act} {Q:Exit→Act→World→Prop} (hgd:o.guard=none) (s x:Operand) (T E:TypeId)
 (ho:o.op= .call {callee:= .builtin .append,args:= #[s,x],argTypes:= #[T,T]})
 (z:Value) (B:Nat) (hT:Tryz.prog.underlying T=some (.slice E)) (hI:(Tryz.prog.info? E).map (fun i=>(i.zero,i.size,i.bytes))=some (some z,La.k,B)) (hz:z.cells.size=La.k) (hk:0<La.k) (hB:B≤100)
 (base:Nat) (v:Value) (hs:a.eval s=v) (hO:w.ownsRow base E La.k v 0 []) (ad:Addr) (m d:Nat) (xs:List α) (hx:a.eval x= .slice (some ad) m d) (hl:xs.length=m) (S:Nat→Prop) (hS:Sq La S w (some ad) xs) (hbig:m≤1000000) (hbase:base≤w.heap.size)
 (h:∀(v':Value) (w':World) (css:List (List Value)),css.length=m→w'.ownsRow base E La.k v' m css.flatten→(∀(j:Nat) (x:α) (cs:List Value),xs[j]? =some x→css[j]? =some cs→La.R S w cs x)→w.grownBy w' v.ownBlock→wpList Tryz.prog ops Q rest (a.put o.dst v') w'):wpList Tryz.prog ops Q (o::rest) a w:=by
 refine wpList_plain hgd fun _ hK=> ?_;obtain⟨i0,hi0,hz0,hz1,hz2⟩:=info_parts hI;obtain⟨css,hcl,hR,hc,hone,hfl⟩:=sq_css hk hS;have hBx:(0+m)*B≤140737488355328:=by
  have:=Nat.mul_le_mul (show 0+m≤1000000 by omega) hB
  omega
 obtain⟨v',w',hrun,h2,h3,_,h5⟩:=run_append_own_at (P:=Tryz.prog) w base T o.type E i0 z La.k B hT hi0 hz0 hz1 hz2 hz hk v 0 [] hO ad m d css.flatten (by rw[hfl,hl]) hc hone
  zM hBx hbase
 unfold Oper.wp execOp;simp only[ho,resolve,invoke,builtin,Sem.run_bind,Sem.run_pure,Result.andThen_ok,List.map_toArray,List.map_cons,List.map_nil,hs,hx,hrun];rw[Nat.zero_add,List.nil_append] at h2;exact hK _ _ (h v' w' css (hcl.trans hl) h2 hR h3)
theorem qCe {K:Nat} (hk:∀cs∈css,cs.length=K) {j:Nat} {cs:List Value} (hj:css[j]? =some cs) (hi:i<K) (u:Value):css.flatten.set (j*K+i) u=(css.set j (cs.set i u)).flatten:=by
 induction css generalizing j with
 |nil=>simp at hj
 |cons c css ih=>
  have hc:=hk c (by simp)
  cases j with
  |zero=>
   simp at hj;subst hj;rw[List.flatten_cons,Nat.zero_mul,Nat.zero_add,List.set_append_left _ _ (by omega),List.set_cons_zero,List.flatten_cons]
  |succ j=>
   rw[List.flatten_cons,List.set_append_right _ _ (by rw[hc,Nat.succ_mul];omega),hc,show(j+1)*K+i-K=j*K+i by rw[Nat.succ_mul];omega,ih (fun x hx=>hk x zN) (by simpa using hj),List.set_cons_succ,List.flatten_cons]
theorem qBs {xs:List Value} (h:w.ownsRow base ty k v n xs) (hk:∀b,v.ownBlock=some b→w'.heap[b]? =w.heap[b]?):w'.ownsRow base ty k v n xs:=by
 refine⟨h.1,?_⟩;rcases h.2 with h0|⟨g',cap,cur,e,q1,q2,q3⟩
 · exact .inl h0
 · refine .inr ⟨g',cap,cur,e,q1,?_,q3⟩
   rw[hk g' (by rw[e];rfl)];exact q2
theorem qCQ {xs:List Value} (h:w.ownsRow base ty k v n xs) (hn:0<n):∃g c,v= .slice (some ⟨g,0,none⟩) n c∧base≤g∧g<w.heap.size:=by
 rcases h.2 with⟨_,h0⟩|⟨g,cap,cur,rfl,hb,hg,_⟩
 · omega
 · exact⟨g,cap,rfl,hb,(Array.getElem?_eq_some_iff.1 hg).1⟩
theorem qC4 (w:World) (ty k:Nat):(w.alloc (.cells #[] ty)).ownsRow w.heap.size ty k (.slice (some ⟨w.heap.size,0,none⟩) 0 0) 0 []:=
 World.ownsRow_made w #[] 0 (qBL _) (by simp[maxLen]) (by simp)
theorem qBV {P:Program} {c:Code} {Q:Exit→Act→World→Prop} {a:Act} (h:∀W,W=w→c.wp P Q a W):c.wp P Q a w:=h w rfl
theorem qCU {W w1:World} (hb:Below W.heap.size W w1):(∀b o,b<W.heap.size→w1.cell? ⟨b,o,none⟩=W.cell? ⟨b,o,none⟩)∧(∀b o,b<W.heap.size→w1.frozen? ⟨b,o,none⟩=W.frozen? ⟨b,o,none⟩):=
 ⟨fun b o h=>hb.cell (p:=⟨b,o,none⟩) h,fun b o h=>hb.frozen (p:=⟨b,o,none⟩) h⟩
theorem qBy {P:Program} {F:Nat} {args:Array Value} {Q:Ending→World→Prop} (h:∀W,W=w→Calls P F args W Q):Calls P F args w Q:=h w rfl
end Go.Proofs.YtgdbhanhmenmfaaGreat
