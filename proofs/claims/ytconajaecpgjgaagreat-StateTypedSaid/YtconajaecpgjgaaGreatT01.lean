/-
W0 Wds On0 Opn Math Im Iun Pkm Km Nvr Stp Kwo Ow0 Own Kpt Iss Le Wid Nfx Mo Ly
-/
import Derived.Test.YtconajaecpgjgaaGreatProg
import Derived.Test.YtconajaecpgjgaaGreatRows
import Derived.WalkKit
import Derived.WalkSpells
import Derived.WalkLawsBesides
import Derived.Maps.AppendAt
import Derived.Deep.Draws
import Derived.Lib.Hide
import Derived.OpenShut
import Derived.Laws.BitsAllLaws
import Derived.Laws.Bits64
import Derived.ProofKit
import Derived.ShutString
import Derived.Deep.Slices
import Derived.Deep.RegionLaw
import Init
set_option linter.unusedSimpArgs false
set_option linter.unusedVariables false
set_option maxRecDepth 100000
set_option maxHeartbeats 1000000
namespace Go.Proofs.YtconajaecpgjgaaGreat
open Go.RowKit
theorem qAZ {p:Prop} (h:p):Hid p:=Lib.hid h
theorem qAa {α:Type _} {l:List α} {i:Nat} (h:i<l.length):l[i]? =some l[i]:=List.getElem?_eq_getElem h
theorem qAb {w w':World} {a:Addr} (h:w'.heap[a.block]? =w.heap[a.block]?):w'.cell? a=w.cell? a:=World.cell?_of_block h
theorem qAe (B:Nat) (w:World):Below B w w:=Below.refl B w
theorem qAf (n:Nat):n≤n:=Nat.le_refl n
theorem qAg {n m k:Nat}:n<m→m≤k→n<k:=Nat.lt_of_lt_of_le
theorem qAh {α:Type _} {i:Nat} {a:α} {l:List α}:l[i]? =some a↔∃h:i<l.length,l[i]=a:=List.getElem?_eq_some_iff
theorem qAi (w:World) (a:Addr) (u:Value) (k:Nat) (h:k≠a.block):(w.setCell a u).heap[k]? =w.heap[k]?:=Below.heap_setCell w a u k h
theorem qAk {α:Type _} {l:List α} {i:Nat} {a:α} (e:l[i]? =some a):a∈l:=List.mem_of_getElem? e
theorem qAn (w:World) (a:Addr) {u:Value} (h:w.cell? a=some u):a.block<w.heap.size:=World.block_lt_of_cell? w a h
theorem qAr {α:Type _} {i:Nat} {l:List α} (h:l.length≤i):List.take i l=l:=List.take_of_length_le h
theorem qAs (n:Nat):0≤n:=Nat.zero_le n
theorem qAu {α:Type _} {i:Nat} {l:List α} (h:i<l.length):List.take (i+1) l=List.take i l++[l[i]]:=List.take_succ_eq_append_getElem h
theorem qAv (n:Int):IntKind.i64.wrap n=(n+9223372036854775808)%18446744073709551616-9223372036854775808:=IntKind.wrap_i64 n
theorem qA1 {α:Type _} {l:List α}:l.length=0→l=[]:=List.eq_nil_of_length_eq_zero
theorem qA8 {α:Type _} {a:α} {l:List α}:a∈l↔∃i:Nat,l[i]? =some a:=List.mem_iff_getElem?
theorem qBA {n m k:Nat}:n≤m→m≤k→n≤k:=Nat.le_trans
theorem qBM (w:World) (o:Obj) (k:Nat) (h:k<w.heap.size):(w.alloc o).heap[k]? =w.heap[k]?:=Below.heap_alloc w o k h
theorem qA {P:Prop} (h:P:=by first|exact HBW.out|exact HBW.out.drew|exact(HBW.out.trans ((qAj W _).mono HBW.out.size))|exact(HBW.out.trans ((qAj W _).drew.mono HBW.out.size))|exact(HBW.out.trans (((qAj W _).alloc (by simp) _).mono HBW.out.size))|exact(HBW.out.trans (((qAj W _).alloc (by simp) _).drew.mono HBW.out.size))):P:=h
theorem qB {P:Prop} (h:P:=by show Below _ _ _;first|exact trn ((qAe _ W).drew) hb4|exact trn ((qAj W _).drew) hb4|exact trn (((qAj W _).alloc (by simp) _).drew) hb4|exact trn (qAj W _) hb4|exact trn ((qAj W _).alloc (by simp) _) hb4|exact trn (qAe _ W) hb4):P:=h
theorem qE {P:Prop} (h:P:=by rw[qA9];exact hab):P:=h
theorem qF {P:Prop} (h:P:=by exact qBO (cs:= #[.int .i64 1,.int .i64 0]) (ts:=[(1,0)]) (by(repeat(first|((with_reducible refine qAm ?_);simp;done)|with_reducible refine qAd ?_|with_reducible refine qAy ?_))) rfl (qAx ⟨qAo (by omega) (by omega),qAo (by omega) (by omega)⟩ (A64.nil)) rfl (by omega)):P:=h
theorem qG {P:Prop} (h:P:=by simp<;>omega):P:=h
theorem qH {P:Prop} (h:P:=by show Below _ _ _;first|exact trn (HB4.out) hb5|exact trn (HB4.out.alloc HB4.out.size _) hb5|exact trn ((HB4.out.alloc HB4.out.size _).alloc (by have:=HB4.out.size;simp;omega) _) hb5):P:=h
theorem qK {P:Prop} (h:P:=by first|omega|(simp<;>omega)):P:=h
theorem qN {P:Prop} (h:P:=by exact qBK (cs:= #[.int .i64 1,.int .i64 0]) (ts:=[(1,0)]) (by(repeat(first|((with_reducible refine qAm ?_);simp;done)|with_reducible refine qAd ?_|with_reducible refine qAy ?_|with_reducible refine qAq ?_ (by omega)|with_reducible refine qAc ?_ HR5.out qK|with_reducible refine qAc ?_ HR4.out qK|with_reducible exact HRW.out))) (by omega) rfl (qBg (by omega) (A64.nil)) rfl (by omega)):P:=h
theorem qO {P:Prop} (h:P:=by
 refine⟨⟨k+1,by omega,by simp,⟨q++y,?_,?_,?_⟩,Hb2.out.grown HG4.out (by omega) (fun i hi=>(HO2.out.lt i hi).1)⟩,by simp[intOf];omega⟩
 · rw[HF.out,HQ.out,HY.out]
   simp[List.append_assoc]
 · simp[List.length_append]
   omega
 · rw[List.length_append]
   exact HO4.out):P:=h
theorem qP {P:Prop} (h:P:=by exact qBO (cs:= #[.int .i64 1,.int .i64 0]) (ts:=[(1,0)]) (by(repeat(first|((with_reducible refine qAm ?_);simp;done)|with_reducible refine qAd ?_|with_reducible refine qAy ?_))) rfl (qAx ⟨qAo (by omega) (by omega),qAo (by omega) (by omega)⟩ (A64.nil)) rfl (by omega)):P:=h
theorem qS {P:Prop} (h:P:=by exact qBO (cs:= #[.int .i64 1,.int .i64 0,.int .i64 1,.int .i64 0]) (ts:=[(1,0),(1,0)]) (by(repeat(first|((with_reducible refine qAm ?_);simp;done)|with_reducible refine qAd ?_|with_reducible refine qAy ?_))) rfl (qAx ⟨qAo (by omega) (by omega),qAo (by omega) (by omega)⟩ (qAx ⟨qAo (by omega) (by omega),qAo (by omega) (by omega)⟩ (A64.nil))) rfl (by omega)):P:=h
theorem qT {P:Prop} (h:P:=by exact qBK (cs:= #[.int .i64 1,.int .i64 0,.int .i64 1,.int .i64 0]) (ts:=[(1,0),(1,0)]) (by(repeat(first|((with_reducible refine qAm ?_);simp;done)|with_reducible refine qAd ?_|with_reducible refine qAy ?_|with_reducible refine qAq ?_ (by omega)|with_reducible refine qAc ?_ HR5.out qK|with_reducible refine qAc ?_ HR4.out qK|with_reducible exact HRW.out))) (by omega) rfl (qAx ⟨qAo (by omega) (by omega),qAo (by omega) (by omega)⟩ (qAx ⟨qAo (by omega) (by omega),qAo (by omega) (by omega)⟩ (A64.nil))) rfl (by omega)):P:=h
theorem qU {P:Prop} (h:P:=by show w.heap.size+2≠_;omega):P:=h
theorem qY {P:Prop} (h:P:=by
 refine⟨0,qAs _,rfl,⟨_,rfl,?_,?_⟩,HB1.out⟩
 · have:=HN.out
   simp only[lB,List.length_append,HL.out] at this
   simp
   omega
 · simpa using HO1.out):P:=h
theorem qZ {P:Prop} (h:P:=by rw[HL.out];exact qAf _):P:=h
theorem qb {P:Prop} (h:P:=by exact qBO (cs:= #[.int .i64 2,.int .i64 0]) (ts:=[(2,0)]) (by(repeat(first|((with_reducible refine qAm ?_);simp;done)|with_reducible refine qAd ?_|with_reducible refine qAy ?_))) rfl (qAx ⟨qAo (by omega) (by omega),qAo (by omega) (by omega)⟩ (A64.nil)) rfl (by omega)):P:=h
theorem qc {P:Prop} (h:P:=by exact qEH HX9.out (by show _≤W.heap.size;omega) (by omega) (by show _<W.heap.size;omega)):P:=h
theorem qd {P:Prop} (h:P:=by rw[HL.out];exact hlt):P:=h
theorem qf {P:Prop} (h:P:=by simp;omega):P:=h
theorem qk {P:Prop} (h:P:=by exact qEH HX8.out (by show _≤W.heap.size;omega) (by omega) (by show _<W.heap.size;omega)):P:=h
theorem qm {P:Prop} (h:P:=by rw[qA9];exact hbb):P:=h
theorem qn {P:Prop} (h:P:=by show Below _ _ _;first|exact trn (HB5.out) hb6|exact trn (HB5.out.alloc HB5.out.size _) hb6|exact trn ((HB5.out.alloc HB5.out.size _).alloc (by have:=HB5.out.size;simp;omega) _) hb6):P:=h
theorem qo {P:Prop} (h:P:=by refine⟨⟨k+1,by omega,by simp,qCp HA.out HX.out HG.out,Hb2.out⟩,by simp[intOf];omega⟩):P:=h
theorem qp {P:Prop} (h:P:=by rw[qA9];omega):P:=h
theorem qs {P:Prop} (h:P:=by show w.heap.size+1≠_;omega):P:=h
theorem qw {P:Prop} (h:P:=by have:=HB5.out.size;simp;omega):P:=h
theorem qx {P:Prop} (h:P:=by have:=A0.out;rw[hra] at this;exact this):P:=h
theorem qy {P:Prop} (h:P:=by show w1.heap.size≠_;omega):P:=h
theorem qz {P:Prop} (h:P:=by have:=HB4.out.size;simp;omega):P:=h
theorem zB {P:Prop} (h:P:=by decide):P:=h
theorem zD {P:Prop} (h:P:=by have:=C0.out;rw[hrc] at this;exact this):P:=h
theorem zE {P:Prop} (h:P:=by refine⟨⟨k+1,by omega,by simp,qEM HA.out HX.out HG.out,Hb2.out⟩,by simp[intOf];omega⟩):P:=h
theorem zH {P:Prop} (h:P:=by exact qBK (cs:= #[.int .i64 2,.int .i64 0]) (ts:=[(2,0)]) (by(repeat(first|((with_reducible refine qAm ?_);simp;done)|with_reducible refine qAd ?_|with_reducible refine qAy ?_|with_reducible refine qAq ?_ (by omega)|with_reducible refine qAc ?_ HR5.out qK|with_reducible refine qAc ?_ HR4.out qK|with_reducible exact HRW.out))) (by omega) rfl (qBg (by omega) (A64.nil)) rfl (by omega)):P:=h
theorem zI {P:Prop} (h:P:=by exact qBK (cs:= #[.int .i64 4,.int .i64 ia]) (ts:=[(4,ia)]) (by(repeat(first|((with_reducible refine qAm ?_);simp;done)|with_reducible refine qAd ?_|with_reducible refine qAy ?_|with_reducible refine qAq ?_ (by omega)|with_reducible refine qAc ?_ HR5.out qK|with_reducible refine qAc ?_ HR4.out qK|with_reducible exact HRW.out))) (by omega) rfl (qAx HIA.out (A64.nil)) rfl (by omega)):P:=h
theorem zJ {P:Prop} (h:P:=by exact qBK (cs:= #[.int .i64 3,.int .i64 0]) (ts:=[(3,0)]) (by(repeat(first|((with_reducible refine qAm ?_);simp;done)|with_reducible refine qAd ?_|with_reducible refine qAy ?_|with_reducible refine qAq ?_ (by omega)|with_reducible refine qAc ?_ HR5.out qK|with_reducible refine qAc ?_ HR4.out qK|with_reducible exact HRW.out))) (by omega) rfl (qBg (by omega) (A64.nil)) rfl (by omega)):P:=h
theorem zK {P:Prop} (h:P:=by exact qBO (cs:= #[.int .i64 1,.int .i64 0,.int .i64 1,.int .i64 0]) (ts:=[(1,0),(1,0)]) (by(repeat(first|((with_reducible refine qAm ?_);simp;done)|with_reducible refine qAd ?_|with_reducible refine qAy ?_))) rfl (qAx ⟨qAo (by omega) (by omega),qAo (by omega) (by omega)⟩ (qAx ⟨qAo (by omega) (by omega),qAo (by omega) (by omega)⟩ (A64.nil))) rfl (by omega)):P:=h
theorem zL {P:Prop} (h:P:=by exact qBO (cs:= #[.int .i64 2,.int .i64 0,.int .i64 1,.int .i64 0]) (ts:=[(2,0),(1,0)]) (by(repeat(first|((with_reducible refine qAm ?_);simp;done)|with_reducible refine qAd ?_|with_reducible refine qAy ?_))) rfl (qAx ⟨qAo (by omega) (by omega),qAo (by omega) (by omega)⟩ (qAx ⟨qAo (by omega) (by omega),qAo (by omega) (by omega)⟩ (A64.nil))) rfl (by omega)):P:=h
theorem zM {P:Prop} (h:P:=by exact qBO (cs:= #[.int .i64 3,.int .i64 0,.int .i64 1,.int .i64 0]) (ts:=[(3,0),(1,0)]) (by(repeat(first|((with_reducible refine qAm ?_);simp;done)|with_reducible refine qAd ?_|with_reducible refine qAy ?_))) rfl (qAx ⟨qAo (by omega) (by omega),qAo (by omega) (by omega)⟩ (qAx ⟨qAo (by omega) (by omega),qAo (by omega) (by omega)⟩ (A64.nil))) rfl (by omega)):P:=h
theorem zP {P:Prop} (h:P:=by exact qBO (cs:= #[.int .i64 7,.int .i64 0,.int .i64 7,.int .i64 0]) (ts:=[(7,0),(7,0)]) (by(repeat(first|((with_reducible refine qAm ?_);simp;done)|with_reducible refine qAd ?_|with_reducible refine qAy ?_))) rfl (qAx ⟨qAo (by omega) (by omega),qAo (by omega) (by omega)⟩ (qAx ⟨qAo (by omega) (by omega),qAo (by omega) (by omega)⟩ (A64.nil))) rfl (by omega)):P:=h
theorem zU {P:Prop} (h:P:=by have:=hb1.size;simp at this;omega):P:=h
theorem zX {P:Prop} (h:P:=by show w.heap.size<_;omega):P:=h
theorem zY {P:Prop} (h:P:=by show(a.add (b*2)).block≠_;rw[qA9];omega):P:=h
theorem ze {P:Prop} (h:P:=by exact qBO (cs:= #[.int .i64 3,.int .i64 0]) (ts:=[(3,0)]) (by(repeat(first|((with_reducible refine qAm ?_);simp;done)|with_reducible refine qAd ?_|with_reducible refine qAy ?_))) rfl (qAx ⟨qAo (by omega) (by omega),qAo (by omega) (by omega)⟩ (A64.nil)) rfl (by omega)):P:=h
theorem zh {P:Prop} (h:P:=by exact qBO (cs:= #[.int .i64 6,.int .i64 0]) (ts:=[(6,0)]) (by(repeat(first|((with_reducible refine qAm ?_);simp;done)|with_reducible refine qAd ?_|with_reducible refine qAy ?_))) rfl (qAx ⟨qAo (by omega) (by omega),qAo (by omega) (by omega)⟩ (A64.nil)) rfl (by omega)):P:=h
theorem zj {P:Prop} (h:P:=by exact qBO (cs:= #[.int .i64 7,.int .i64 0]) (ts:=[(7,0)]) (by(repeat(first|((with_reducible refine qAm ?_);simp;done)|with_reducible refine qAd ?_|with_reducible refine qAy ?_))) rfl (qAx ⟨qAo (by omega) (by omega),qAo (by omega) (by omega)⟩ (A64.nil)) rfl (by omega)):P:=h
theorem zk {P:Prop} (h:P:=by exact qBO (cs:= #[.int .i64 2,.int .i64 0]) (ts:=[(2,0)]) (by(repeat(first|((with_reducible refine qAm ?_);simp;done)|with_reducible refine qAd ?_|with_reducible refine qAy ?_))) rfl (qAx ⟨qAo (by omega) (by omega),qAo (by omega) (by omega)⟩ (A64.nil)) rfl (by omega)):P:=h
theorem zm {P:Prop} (h:P:=by exact qBO (cs:= #[.int .i64 3,.int .i64 0]) (ts:=[(3,0)]) (by(repeat(first|((with_reducible refine qAm ?_);simp;done)|with_reducible refine qAd ?_|with_reducible refine qAy ?_))) rfl (qAx ⟨qAo (by omega) (by omega),qAo (by omega) (by omega)⟩ (A64.nil)) rfl (by omega)):P:=h
theorem zo {P:Prop} (h:P:=by exact qBO (cs:= #[.int .i64 8,.int .i64 0]) (ts:=[(8,0)]) (by(repeat(first|((with_reducible refine qAm ?_);simp;done)|with_reducible refine qAd ?_|with_reducible refine qAy ?_))) rfl (qAx ⟨qAo (by omega) (by omega),qAo (by omega) (by omega)⟩ (A64.nil)) rfl (by omega)):P:=h
theorem zp {P:Prop} (h:P:=by exact qBZ _ _ _):P:=h
theorem zq {P:Prop} (h:P:=by show Below _ _ _;first|exact trn ((qAe _ W).drew) hb7|exact trn ((qAj W _).drew) hb7|exact trn (((qAj W _).alloc (by simp) _).drew) hb7|exact trn (qAj W _) hb7|exact trn ((qAj W _).alloc (by simp) _) hb7|exact trn (qAe _ W) hb7):P:=h
theorem zu {P:Prop} (h:P:=by have:=HW6.out.size;first|exact this|(simp;omega)):P:=h
theorem zv {P:Prop} (h:P:=by show Below _ _ _;first|exact(qAj V _).trans (hb4.mono (by simp))|exact(qAj V _).drew.trans (hb4.mono (by simp))):P:=h
theorem zw {P:Prop} (h:P:=by show w.heap.size+2<_;omega):P:=h
theorem jA {P:Prop} (h:P:=by show w.heap.size+1<_;omega):P:=h
theorem jB {P:Prop} (h:P:=by show w1.heap.size<_;omega):P:=h
theorem jC {P:Prop} (h:P:=by have:=HB4.out.size;simp;omega):P:=h
theorem jF {P:Prop} (h:P:=by
 have e:=HE.out
 rw[qAr qZ,qAr (by rw[HM.out];exact qAf _)] at e
 rw[e,qEE]
 rfl):P:=h
theorem jG {P:Prop} (h:P:=by show(a.add (b*2)).block<_;rw[qA9];omega):P:=h
theorem jI {P:Prop} (h:P:=by
 obtain⟨h1,rfl⟩:=qAh.1 HXk.out
 rw[qAu h1,List.all_append,HA.out]
 simp[HOB.out]):P:=h
theorem jJ {P:Prop} (h:P:=by exact qBO (cs:= #[.int .i64 4,.int .i64 (j:Int)]) (ts:=[(4,(j:Int))]) (by(repeat(first|((with_reducible refine qAm ?_);simp;done)|with_reducible refine qAd ?_|with_reducible refine qAy ?_))) rfl (qAx HIA.out (A64.nil)) rfl (by omega)):P:=h
theorem jM {P:Prop} (h:P:=by exact qBO (cs:= #[.int .i64 t.1,.int .i64 t.2]) (ts:=[t]) (by(repeat(first|((with_reducible refine qAm ?_);simp;done)|with_reducible refine qAd ?_|with_reducible refine qAy ?_))) rfl (qAx H64.out A64.nil) rfl (by omega)):P:=h
theorem jN {P:Prop} (h:P:=by
 rcases hown.2 with⟨rfl,rfl⟩|⟨g,cap,cur,rfl,_,_,hnc,_⟩
 · simp[Builtin.append_,ht,sizeOf,typeInfo,hi0,Builtin.lenOf,Builtin.firstCells]
 · simp[Builtin.append_,ht,sizeOf,typeInfo,hi0,Builtin.lenOf,Builtin.firstCells,hnc,storeCells]):P:=h
theorem jP {P:Prop} (h:P:=by show g3≠_;omega):P:=h
theorem jR {P:Prop} (h:P:=by rw[HM.out];exact qAf _):P:=h
theorem jS {P:Prop} (h:P:=by rw[←HL.out,←HM.out,e]):P:=h
theorem jT {P:Prop} (h:P:=by show Below _ _ _;first|exact trn (HB7.out) hb8|exact trn (HB7.out.alloc HB7.out.size _) hb8|exact trn ((HB7.out.alloc HB7.out.size _).alloc (by have:=HB7.out.size;simp;omega) _) hb8):P:=h
theorem jV {P:Prop} (h:P:=by decide +kernel):P:=h
theorem jW {P:Prop} (h:P:=by decide):P:=h
theorem jX {P:Prop} (h:P:=by rw[HM.out];exact hlt):P:=h
theorem jZ {P:Prop} (h:P:=by
 obtain rfl:G=false:=by
  rw[←HG.out]
  exact qBX (List.all_eq_false.2 ⟨x,qAk HXk.out,by rw[HOB.out];simp⟩)
 have t3:(ni==0)=false:=by simpa using a2
 exact qQ):P:=h
theorem jd {P:Prop} (h:P:=by show w.heap.size+1≠_;omega):P:=h
theorem je {P:Prop} (h:P:=by show w.heap.size≠_;omega):P:=h
theorem jf {P:Prop} (h:P:=by show g3<_;omega):P:=h
theorem jh {P:Prop} (h:P:=by exact tysL.wide (tysL.keep HTS.out fun b hb=>(qA0 (R:=(w.heap.size+3)) (HBW.out.trans (HB5.out.mono HBW.out.size)) (by omega)).block b (by omega)) fun b hb=> .inl hb):P:=h
theorem ji {P:Prop} (h:P:=by exact⟨none,0,by rw[h0],by omega,by simp[maxLen],fun hpos=>absurd hpos (by omega)⟩):P:=h
theorem ju {P:Prop} (h:P:=by
 refine⟨0,qAs _,rfl,⟨_,rfl,?_,?_⟩,HB1.out⟩
 · have:=HN.out
   rw[qBl,HL.out] at this
   simp[pts]
   omega
 · simpa[pts] using HO1.out):P:=h
theorem jx {P:Prop} (h:P:=by rw[HNF.out];exact hlt):P:=h
theorem j4 {P:Prop} (h:P:=by
 simp at h
 exact⟨k.toNat,n.toNat,by ext<;>simp<;>omega,by omega,by omega⟩):P:=h
theorem j5 {P:Prop} (h:P:=by
 obtain rfl:G=false:=by
  rw[←HG.out]
  exact qDY (List.all_eq_false.2 ⟨x,qAk HXk.out,by simp[handB];omega⟩)
 exact q9):P:=h
theorem j7 {P:Prop} (h:P:=by
 obtain rfl:G=false:=by
  rw[←HG.out]
  exact qBX (List.all_eq_false.2 ⟨x,qAk HXk.out,by rw[HOB.out];simp⟩)
 exact qQ):P:=h
theorem j8 {P:Prop} (h:P:=by exact .inr ⟨g',cap,cur,e,by have:=HBV.out.size;simp at hb2;omega,rest⟩):P:=h
theorem j9 {P:Prop} (h:P:=by
 have:=(h2.at_ k fn l HF.out HX.out).2.2.zero
 rw[qBk HX0.out] at this
 injection this with this
 exact HNe.out (by rw[←HM0.out,this];rfl)):P:=h
theorem qAD {P:Prop} (h:P:=by rw[qA9];exact ha'b):P:=h
theorem qAF {P:Prop} (h:P:=by
 have hlen:=L.len h2
 have:=qAn W _ (h1 0 (cs'[0]'(by omega)) (qAa _))
 rwa [qA9] at this):P:=h
theorem qAG {P:Prop} (h:P:=by
 by_cases e:p=q
 · subst e
   rw[HXq.out] at hy
   injection hy with hy
   subst hy
   exact HS8.out
 · exact H8a.out p y (by omega) hy):P:=h
theorem qAH {P:Prop} (h:P:=by rw[qA9];exact hs):P:=h
theorem qAI {P:Prop} (h:P:=by
 have e:(q++vb x.length++x).length=q.length+(vb x.length).length+x.length:=by simp[List.length_append];omega
 rw[e]
 exact HO4.out):P:=h
theorem qAJ {P:Prop} (h:P:=by show w.heap.size+1<_;omega):P:=h
theorem qAK {P:Prop} (h:P:=by show w.heap.size<_;omega):P:=h
theorem qAL {P:Prop} (h:P:=by show w.heap.size+3≠_;omega):P:=h
theorem qAM {P:Prop} (h:P:=by show(a.add (j*3)).block≠_;rw[qA9];omega):P:=h
theorem qAN {P:Prop} (h:P:=by show(a.add (j*5)).block≠_;rw[qA9];omega):P:=h
theorem qAO {P:Prop} (h:P:=by show(a.add j).block≠_;rw[qA9];omega):P:=h
theorem qAP {P:Prop} (h:P:=by show w.heap.size+4≠_;omega):P:=h
theorem qAQ {P:Prop} (h:P:=by show(a.add (j*2)).block≠_;rw[qA9];omega):P:=h
theorem qAR {P:Prop} (h:P:=by show(a.add (j*3)).block<_;rw[qA9];omega):P:=h
theorem qAS {P:Prop} (h:P:=by show(a.add (j*5)).block<_;rw[qA9];omega):P:=h
theorem qAT {P:Prop} (h:P:=by show(a.add j).block<_;rw[qA9];omega):P:=h
theorem qAU {P:Prop} (h:P:=by show w.heap.size+3<_;omega):P:=h
theorem qAV {P:Prop} (h:P:=by show(a.add (j*2)).block<_;rw[qA9];omega):P:=h
theorem qAW {P:Prop} (h:P:=by show(a2.add (l*2)).block≠_;rw[qA9];omega):P:=h
theorem qAX {P:Prop} (h:P:=by show w.heap.size+4<_;omega):P:=h
theorem qAY {P:Prop} (h:P:=by show(a2.add (l*2)).block<_;rw[qA9];omega):P:=h
theorem trn {B:Nat} {a b c:World} (h:Below B a b) (k:Below b.heap.size b c) (hB:B=a.heap.size:=by rfl):Below B a c:=h.trans (k.mono (by rw[hB];exact h.size))
theorem qA9 (a:Addr) (n:Nat):(a.add n).block=a.block:=by
 unfold Addr.add
 by_cases h:n=0<;>simp[h]
theorem qEN (a:Addr) (i j:Nat):(a.add i).add j=a.add (i+j):=by
 unfold Addr.add
 by_cases hi:i=0
 · simp[hi]
 · by_cases hj:j=0
   · simp[hi,hj]
   · simp[hi,hj,Nat.add_assoc]
def Blk (w:World) (g:Nat) (t:TypeId) (cs:Array Value):Prop:=w.heap[g]? =some (.cells cs t (0,0))
theorem Blk.lt {w:World} {g:Nat} {t:TypeId} {cs:Array Value} (h:Blk w g t cs):g<w.heap.size:=(Array.getElem?_eq_some_iff.1 h).1
theorem Blk.cell {w:World} {g:Nat} {t:TypeId} {cs:Array Value} (h:Blk w g t cs) (i:Nat):w.cell? ⟨g,i,none⟩=cs[i]? :=cell_of_row w g i cs t (0,0) h
theorem Blk.frozen {w:World} {g:Nat} {t:TypeId} {cs:Array Value} (h:Blk w g t cs) (i:Nat):w.frozen? ⟨g,i,none⟩=false:=by
 unfold Blk at h
 simp[World.frozen?,h]
theorem Blk.set {w:World} {g:Nat} {t:TypeId} {cs:Array Value} (h:Blk w g t cs) (i:Nat) (u:Value):Blk (w.setCell ⟨g,i,none⟩ u) g t (cs.setIfInBounds i u):=by
 unfold Blk at h⊢
 simp[World.setCell,Array.getElem?_modify,h]
theorem qE0 {k:IntKind} {a b:Int} (h:a=b):Ending.returned (.int k a)= .returned (.int k b):=by rw[h]
def Only (g:Nat) (w w':World):Prop:=w.grownBy w' (some g)
theorem qEY (g:Nat) (w:World):Only g w w:=⟨rfl,rfl,rfl,qAf _,fun _ _ _=>rfl⟩
theorem qGc {g:Nat} {a b c:World} (h:Only g a b) (k:Only g b c):Only g a c:=
 ⟨k.os.trans h.os,k.tape.trans h.tape,k.output.trans h.output,qBA h.size k.size,fun i hi hne=>(k.block i (qAg hi h.size) hne).trans (h.block i hi hne)⟩
theorem qFg {g:Nat} {a b:World} (h:Only g a b) (i:Nat) (u:Value):Only g a (b.setCell ⟨g,i,none⟩ u):=
 qGc h ⟨rfl,rfl,rfl,by simp[World.setCell],fun k _ hne=>qAi _ _ _ _ (fun e=>hne (by rw[e]))⟩
def IsRow (k:IntKind) (w:World) (a:Option Addr) (len cap:Nat) (zs:List Int):Prop:=
 (a=none∧len=0∧cap=0∧zs=[])∨
 ∃x,a=some x∧len≤cap∧cap≤maxLen∧zs.length=cap∧(∀i,i<zs.length→w.cell? (x.add i)=some (.int k (zs.getD i 0)))∧∀n∈zs,(Lit.int k n).wf=true
def Bs (xs:List Nat):List Value:=xs.map fun x:Nat=>Value.int .u8 (x:Int)
theorem qCT (xs:List Nat):(Bs xs).length=xs.length:=by simp[Bs]
theorem qFM (xs:List Nat) (j:Nat) (h:j<xs.length):(Bs xs)[j]? =some (.int .u8 ((xs[j]?.getD 0:Nat):Int)):=by simp[Bs,h]
theorem qGz (xs ys:List Nat):Bs (xs++ys)=Bs xs++Bs ys:=by simp[Bs]
theorem Bs_one (xs:List Nat):∀u∈Bs xs,u.oneCell'=true:=by
 intro u hu
 obtain⟨x,_,rfl⟩:=List.mem_map.1 hu
 rfl
def Byt (S:Nat→Prop) (w:World) (A:Option Addr) (xs:List Nat):Prop:=
 0<xs.length→∃a,A=some a∧S a.block∧∀j,j<xs.length→w.cell? (a.add j)=some (.int .u8 ((xs[j]?.getD 0:Nat):Int))
theorem Byt.nil (S:Nat→Prop) (w:World) (A:Option Addr):Byt S w A []:=fun h=>absurd h (by simp)
theorem Byt.keep {S:Nat→Prop} {w w':World} {A:Option Addr} {xs:List Nat} (h:Byt S w A xs) (hk:∀b,S b→w'.heap[b]? =w.heap[b]?):Byt S w' A xs:=fun hn=>by
 obtain⟨a,e,hs,hc⟩:=h hn
 exact⟨a,e,hs,fun j hj=>(qAb (hk _ qAH)).trans (hc j hj)⟩
theorem Byt.wide {S T:Nat→Prop} {w:World} {A:Option Addr} {xs:List Nat} (h:Byt S w A xs) (hk:∀b,S b→T b):Byt T w A xs:=fun hn=>by
 obtain⟨a,e,hs,hc⟩:=h hn
 exact⟨a,e,hk _ hs,hc⟩
theorem Byt.take {S:Nat→Prop} {w:World} {A:Option Addr} {xs:List Nat} (h:Byt S w A xs) (k:Nat):Byt S w A (xs.take k):=fun hn=>by
 have hl:(xs.take k).length≤xs.length:=by simp;omega
 obtain⟨a,e,hs,hc⟩:=h (by omega)
 refine⟨a,e,hs,fun j hj=> ?_⟩
 have hj':j<k:=by simp at hj;omega
 rw[hc j (by omega),List.getElem?_take_of_lt hj']
theorem Byt.drop {S:Nat→Prop} {w:World} {A:Option Addr} {xs:List Nat} (h:Byt S w A xs) (k:Nat):Byt S w (A.map (·.add k)) (xs.drop k):=fun hn=>by
 have hl:(xs.drop k).length=xs.length-k:=by simp
 obtain⟨a,e,hs,hc⟩:=h (by omega)
 refine⟨a.add k,by rw[e];rfl,by rw[qA9];exact hs,fun j hj=> ?_⟩
 rw[qEN,hc (k+j) (by omega),List.getElem?_drop]
theorem Byt.at {S:Nat→Prop} {w:World} {A:Option Addr} {xs:List Nat} (h:Byt S w A xs) {k:Nat} (hk:k<xs.length):
 ∃a,A=some a∧S a.block∧w.cell? (a.add k)=some (.int .u8 ((xs[k]?.getD 0:Nat):Int)):=by
 obtain⟨a,e,hs,hc⟩:=h (by omega)
 exact⟨a,e,hs,hc k hk⟩
theorem qA5 {w:World} {base n:Nat} {v:Value} {xs:List Nat} (h:w.ownsRow base 5 1 v n (Bs xs)):
 ∃A c,v= .slice A n c∧n=xs.length∧n≤c∧c≤maxLen∧Byt (fun b=>base≤b∧b<w.heap.size) w A xs:=by
 have hn:n=xs.length:=by have:=h.1;rw[qCT] at this;omega
 rcases h.2 with⟨rfl,h0⟩|⟨g,cap,cur,rfl,hb,hg,hnc,hcm,_,_⟩
 · refine⟨none,0,by rw[h0],hn,by omega,by simp[maxLen],fun hpos=>absurd hpos (by omega)⟩
 · refine⟨some ⟨g,0,none⟩,cap,rfl,hn,hnc,hcm,fun _=>⟨⟨g,0,none⟩,rfl,⟨hb,(Array.getElem?_eq_some_iff.1 hg).1⟩,fun j hj=> ?_⟩⟩
   exact h.cells rfl j _ (qFM xs j hj)
theorem qDE:(Tryz.prog.info? 5).map (fun i=>(i.zero,i.size,i.bytes))=some (some (.int .u8 0),1,1):=by kernel_rfl
section
variable (w:World)
theorem qCK (base ty:Nat) (v:Value) (n:Nat) (xs:List Nat) (hown:w.ownsRow base 5 1 v n (Bs xs)) (A:Option Addr) (m c:Nat) (ys:List Nat) (hm:ys.length=m)
 (S:Nat→Prop) (hy:Byt S w A ys) (hbig:n+m≤140737488355328) (hbase:base≤w.heap.size):
 ∃v' w',(Builtin.append_ #[52,52] ty #[v,.slice A m c]).run Tryz.prog w= .ok v' w'∧w'.ownsRow base 5 1 v' (n+m) (Bs (xs++ys))∧w.grownBy w' v.ownBlock∧
  (v'.ownBlock=v.ownBlock∨v'.ownBlock=some w.heap.size):=by
 obtain⟨i0,hi0,hz0,hz1,hz2⟩:=info_parts qDE
 rw[qGz]
 rcases A with _|a
 · have h0:m=0:=by
    rcases Nat.eq_zero_or_pos m with h|h
    · exact h
    · obtain⟨a,h,_⟩:=hy (by omega)
      cases h
   subst h0
   obtain rfl:ys=[]:=qA1 hm
   refine⟨v,w,?_,by simpa[Bs] using hown,⟨rfl,rfl,rfl,qAf _,fun _ _ _=>rfl⟩,.inl rfl⟩
   have ht:=run_underlying (P:=Tryz.prog) (w:=w) Tryz.underlying52
   exact jN
 · have hcells:∀j u,(Bs ys)[j]? =some u→w.cell? (a.add j)=some u:=by
    intro j u hu
    have hj:j<ys.length:=by
     rcases Nat.lt_or_ge j ys.length with h|h
     · exact h
     · rw[List.getElem?_eq_none (by rw[qCT];omega)] at hu;cases hu
    obtain⟨a',e,_,hc⟩:=hy (by omega)
    injection e with e
    subst e
    rw[hc j hj,←hu,qFM ys j hj]
   obtain⟨v',w',hrun,h2,h3,_,h5⟩:=run_append_own_at (P:=Tryz.prog) w base 52 ty 5 i0 (.int .u8 0) 1 1 Tryz.underlying52 hi0 hz0 hz1 hz2 rfl (by omega) v n (Bs xs) hown a m c (Bs ys) (by rw[qCT];omega) hcells (Bs_one ys)
    (by simp only[maxLen];omega) (by omega) hbase
   exact⟨v',w',hrun,h2,h3,h5⟩
theorem qA3 {ops:Array Oper} {rest:List Oper} {o:Oper} {a:Act} {Q:Exit→Act→World→Prop} (hgd:o.guard=none) (s x:Operand)
 (ho:o.op= .call {callee:= .builtin .append,args:= #[s,x],argTypes:= #[52,52]})
 (base:Nat) (v:Value) (n:Nat) (xs:List Nat) (hs:a.eval s=v) (hown:w.ownsRow base 5 1 v n (Bs xs)) (A:Option Addr) (m c:Nat) (ys:List Nat) (hx:a.eval x= .slice A m c) (hm:ys.length=m)
 (S:Nat→Prop) (hy:Byt S w A ys) (hbig:n+m≤140737488355328) (hbase:base≤w.heap.size)
 (h:∀v' w',w'.ownsRow base 5 1 v' (n+m) (Bs (xs++ys))→w.grownBy w' v.ownBlock→(v'.ownBlock=v.ownBlock∨v'.ownBlock=some w.heap.size)→wpList Tryz.prog ops Q rest (a.put o.dst v') w'):
 wpList Tryz.prog ops Q (o::rest) a w:=by
 refine wpList_plain hgd fun _ hK=> ?_
 obtain⟨v',w',hrun,h2,h3,h4⟩:=qCK w base o.type v n xs hown A m c ys hm S hy hbig hbase
 unfold Oper.wp execOp
 simp only[ho,resolve,invoke,builtin,Sem.run_bind,Sem.run_pure,Result.andThen_ok,List.map_toArray,List.map_cons,List.map_nil,hs,hx,hrun]
 exact hK _ _ (h v' w' h2 h3 h4)
end
theorem qHN (w:World):(w.alloc (.cells #[] 5)).ownsRow w.heap.size 5 1 (.slice (some ⟨w.heap.size,0,none⟩) 0 0) 0 (Bs []):=
 World.ownsRow_made w #[] 0 (qAf _) (by simp[maxLen]) (by simp)
theorem qFH (w:World) (z:Int) (x:Nat) (h:z=(x:Int)):Byt (·=w.heap.size) (w.alloc (.cells #[.int .u8 z] 5)) (some ⟨w.heap.size,0,none⟩) [x]:=fun _=>
 ⟨_,rfl,rfl,fun j hj=>by
   obtain rfl:j=0:=by simp at hj;omega
   subst h
   exact cell_one_new _ _ _ 0 _ rfl⟩
theorem qDH (w:World) (z:Int) (x:Nat) (h:z=(x:Int)):(w.alloc (.cells #[.int .u8 z] 5)).ownsRow w.heap.size 5 1 (.slice (some ⟨w.heap.size,0,none⟩) 1 1) 1 (Bs [x]):=by
 subst h
 exact⟨rfl,.inr ⟨w.heap.size,1,_,rfl,qAf _,heap_alloc_new w _,qAf _,by simp[maxLen],rfl,rfl⟩⟩
theorem qA4 {w w':World} {base B:Nat} {v:Value} {n:Nat} {xs:List Value} (h:w.ownsRow base 5 1 v n xs) (hb:Below B w w') (hB:w.heap.size≤B):w'.ownsRow base 5 1 v n xs:=
 h.kept (w':=w') (row:=none) ⟨hb.os,hb.tape,hb.output,hb.size,fun k hk _=>hb.block k (by omega)⟩ (by cases v.ownBlock<;>simp)
theorem Byt.below {B B':Nat} {w w':World} {A:Option Addr} {xs:List Nat} (h:Byt (·<B) w A xs) (hb:Below B' w w') (hB:B≤B'):Byt (·<B) w' A xs:=h.keep fun b h1=>hb.block b (qAg h1 hB)
open Go.ChangeShapes Go.WideShapes Go.ChangeAt Go.RowKit
theorem own:ownKnob Tryz.prog.godebug=none:=by kernel_rfl
theorem laidOut:laidOutB Tryz.prog=true:=by kernel_rfl
open Go.ChangeShapes Go.WideShapes Go.ChangeAt Go.RowKit
def vb (v:Nat):List Nat:=if v<128 then [v] else (v % 128+128)::vb (v / 128)
termination_by v
decreasing_by omega
theorem qCf (v:Nat) (h:v<128):vb v=[v]:=by rw[vb,if_pos h]
theorem qEu (v:Nat) (h:¬v<128):vb v=(v % 128+128)::vb (v / 128):=by rw[vb,if_neg h]
theorem qGE (v:Nat):0<(vb v).length:=by
 by_cases h:v<128
 · rw[qCf v h];simp
 · rw[qEu v h];simp
theorem qBU (k:Nat):∀v,v<128 ^ (k+1)→(vb v).length≤k+1:=by
 induction k with
 |zero=>intro v hv;rw[qCf v (by simpa using hv)];simp
 |succ k ih=>
  intro v hv
  by_cases h:v<128
  · rw[qCf v h];simp
  · rw[qEu v h,List.length_cons]
    have:v / 128<128 ^ (k+1):=Nat.div_lt_of_lt_mul (by rw[Nat.pow_succ] at hv;omega)
    have:=ih _ this
    omega
def sv:List Nat→Nat
 |[]=>0
 |x::r=>x % 128+128*sv r
def B64:Nat:=18446744073709551616
def IsVar (xs:List Nat) (v n:Nat):Prop:=n≤xs.length∧xs.take n=vb v∧v<B64
theorem IsVar.len {xs:List Nat} {v n:Nat} (h:IsVar xs v n):n=(vb v).length:=by
 rw[←h.2.1,List.length_take];have:=h.1;omega
theorem IsVar.pos {xs:List Nat} {v n:Nat} (h:IsVar xs v n):0<n:=by rw[h.len];exact qGE v
def More (xs:List Nat) (i:Nat):Prop:=i≤xs.length∧∀j,j<i→128≤xs[j]?.getD 0
theorem More.zero (xs:List Nat):More xs 0:=⟨qAs _,fun j hj=>absurd hj (by omega)⟩
theorem More.succ {xs:List Nat} {i:Nat} (h:More xs i) (hi:i<xs.length) (hx:128≤xs[i]?.getD 0):More xs (i+1):=
 ⟨hi,fun j hj=>by rcases Nat.lt_or_ge j i with hji|hji;exact h.2 j hji;obtain rfl:j=i:=by omega
                  exact hx⟩
def argN (op:Int):Int:=
 if op=29∨op=30 then 2
 else if op=0∨op=1∨op=3∨op=4∨op=23∨op=24∨op=25∨op=27∨op=28 then 1
 else if op<0∨42≤op then -1 else 0
theorem qEL (op:Int):argN op= -1∨argN op=0∨argN op=1∨argN op=2:=by
 unfold argN
 repeat' split
 all_goals simp
theorem argN_op (op:Int) (h:0≤argN op):0≤op∧op<42:=by
 unfold argN at h
 repeat' split at h
 all_goals omega
def fitN (n a b:Int):Bool:=decide (0≤a∧a≤(if 0<n then 255 else 0)∧0≤b∧b≤(if 1<n then 255 else 0))
def goodI (op a b:Int):Bool:=decide (0≤argN op) && fitN (argN op) a b
def bodyB (n:Int) (a b:Nat):List Nat:=(if 0<n then vb a else [])++(if 1<n then vb b else [])
def insB (op a b:Int):List Nat:=if goodI op a b=true then op.toNat::bodyB (argN op) a.toNat b.toNat else []
theorem qBF {op a b:Int} (h:goodI op a b=true):∃o x y:Nat,op=(o:Int)∧a=(x:Int)∧b=(y:Int)∧o<42∧x≤255∧y≤255∧0≤argN op∧(¬0<argN op→x=0)∧(¬1<argN op→y=0):=by
 unfold goodI fitN at h
 simp only[Bool.and_eq_true,decide_eq_true_eq] at h
 obtain⟨h0,h1,h2,h3,h4⟩:=h
 have:=argN_op op h0
 refine⟨op.toNat,a.toNat,b.toNat,by omega,by omega,by omega,by omega,?_,?_,h0,fun hn=> ?_,fun hn=> ?_⟩
 · split at h2<;>omega
 · split at h4<;>omega
 · rw[if_neg hn] at h2;omega
 · rw[if_neg hn] at h4;omega
theorem qBm {o x y:Nat} (h:goodI o x y=true):insB o x y=o::bodyB (argN o) x y:=by
 unfold insB
 rw[if_pos h]
 simp
theorem qCz {op a b:Int} (h:¬goodI op a b=true):insB op a b=[]:=by
 unfold insB
 rw[if_neg h]
theorem qBu (x:Nat) (h:x≤255):(vb x).length≤2:=qBU 1 x (by omega)
theorem qIK (n:Int) (x y:Nat) (hx:x≤255) (hy:y≤255):(bodyB n x y).length≤4:=by
 have h1:=qBu x hx
 have h2:=qBu y hy
 unfold bodyB
 split<;>split<;>simp<;>omega
theorem qI3 (op a b:Int):(insB op a b).length≤5:=by
 by_cases h:goodI op a b=true
 · obtain⟨o,x,y,rfl,rfl,rfl,_,hx,hy,_⟩:=qBF h
   rw[qBm h]
   have:=qIK (argN o) x y hx hy
   simp
   omega
 · rw[qCz h];simp
theorem qI2 {op a b:Int} (h:goodI op a b=true):0<(insB op a b).length:=by
 obtain⟨o,x,y,rfl,rfl,rfl,ho,hx,hy,_⟩:=qBF h
 rw[qBm h]
 simp
def HasI (xs:List Nat):Prop:=∃(o x y:Nat) (rest:List Nat),goodI o x y=true∧xs=insB o x y++rest
def pt (x:List Nat):List Nat:=vb x.length++x
def pts (xss:List (List Nat)):List Nat:=(xss.map pt).flatten
def joinB (xss:List (List Nat)):List Nat:=vb xss.length++pts xss
theorem qFf (x:List Nat) (r:List (List Nat)):pts (x::r)=pt x++pts r:=by simp[pts]
theorem pts_app (a b:List (List Nat)):pts (a++b)=pts a++pts b:=by simp[pts]
theorem qIq (a:List (List Nat)) (x:List Nat):pts (a++[x])=pts a++pt x:=by simp[pts]
theorem qCu (x:List Nat):(pt x).length=(vb x.length).length+x.length:=by simp[pt]
theorem qFd (xss:List (List Nat)) (k:Nat) (h:k<xss.length):pts (xss.take (k+1))=pts (xss.take k)++pt (xss[k]?.getD []):=by
 rw[qAu h,qIq]
 simp[h]
theorem qIr (xss:List (List Nat)) (k:Nat):(pts (xss.take k)).length≤(pts xss).length:=by
 conv=>rhs;rw[←List.take_append_drop k xss,pts_app,List.length_append]
 omega
theorem qFe (xss:List (List Nat)):xss.length≤(pts xss).length:=by
 induction xss with
 |nil=>simp
 |cons x r ih=>
  rw[qFf,List.length_append,qCu,List.length_cons]
  have:=qGE x.length
  omega
theorem qHL (xss:List (List Nat)) (M:Nat) (hM:M<B64) (h:∀j,j<xss.length→(xss[j]?.getD []).length≤M):(pts xss).length≤xss.length*(10+M):=by
 induction xss with
 |nil=>simp[pts]
 |cons x r ih=>
  have h0:=h 0 (by simp)
  simp at h0
  have h1:=ih fun j hj=>by have:=h (j+1) qf;simpa using this
  have h2:=qBU 9 x.length (by unfold B64 at hM;omega)
  rw[qFf,List.length_append,qCu,List.length_cons,Nat.add_mul]
  omega
theorem qBl (xss:List (List Nat)):(joinB xss).length=(vb xss.length).length+(pts xss).length:=by simp[joinB]
theorem qDc (xss:List (List Nat)) (M:Nat) (hM:M<B64) (hn:xss.length<B64) (h:∀j,j<xss.length→(xss[j]?.getD []).length≤M):(joinB xss).length≤10+xss.length*(10+M):=by
 have h1:=qHL xss M hM h
 have h2:=qBU 9 xss.length (by unfold B64 at hn;omega)
 rw[qBl]
 omega
def HasPart (rest:List Nat) (m j:Nat):Prop:=IsVar rest m j∧j+m≤rest.length
def Body (bs:List Nat) (n:Nat) (xss:List (List Nat)):Prop:=xss.length=n∧bs=pts xss
def IsJoin (xs:List Nat) (most:Int) (xss:List (List Nat)):Prop:=xs=joinB xss∧(xss.length:Int)≤most
def refB (k:Int):Bool:=k==2 || k==3 || k==4 || k==6 || k==7
def goodB (k n r:Int):Bool:=if k=1∨k=2∨k=3∨k=7 then n==0 else if k=4 then decide (0≤n∧n<r) else if k=5 then decide (0≤n∧n<4) else false
def subB (a b c d:Int):Bool:=(a==c && b==d) || c==8 || (refB a && refB c && (a==6 || c==7))
def joinK (a b c d:Int):Int:=if subB a b c d then c else if subB c d a b then a else if refB a && refB c then 7 else 8
def joinN (a b c d:Int):Int:=if subB a b c d then d else if subB c d a b then b else 0
theorem or128 (u:Nat):bits .or .u8 ((u:Int) % 256) 128=((u % 128+128:Nat):Int):=by
 have h:=u8_or_nat (u % 256) 128 (by omega) (by omega)
 have h3:(u % 256) ||| 128=u % 128+128:=by
  have e:u % 256=u % 128∨u % 256=128+u % 128:=by omega
  have j:128 ||| u % 128=128+u % 128:=nat_join 7 128 (u % 128) (by omega) (by omega)
  rcases e with e|e
  · rw[e,Nat.or_comm,j];omega
  · rw[e,←j,Nat.or_assoc,Nat.or_comm (u % 128),←Nat.or_assoc,Nat.or_self,j];omega
 rw[h3] at h
 rw[←h]
 congr 1
theorem qBW (v:Nat) (w:World) (hv:v<B64):
 Calls Tryz.prog 138 #[.int .u64 (v:Nat)] w fun e w'=>∃u,e= .returned u∧w'.ownsRow w.heap.size 5 1 u (vb v).length (Bs (vb v))∧Below w.heap.size w w':=by
 have HV0:=hv
 go_enter Tryz.func138,Tryz.ntmps138
 go_wp2
 go_loopw [0,3] (fun x o wr=>∃(u:Nat) (pre:List Nat),x= .int .u64 (u:Nat)∧wr.ownsRow w.heap.size 5 1 o pre.length (Bs pre)∧vb v=pre++vb u∧u<B64∧Below w.heap.size w wr) (fun x _ _=>(intOf x).toNat)
 case atStart=>exact⟨v,[],rfl,World.ownsRow_nil _ _ _ _,by simp,hv,qAe _ _⟩
 case round=>
  obtain⟨u,pre,rfl,hown,hvb,hu,hbel⟩:=hrel
  have HV:=qAZ hvb
  have HO:=qAZ hown
  have HU:=qAZ hu
  clear hvb hown hu hv
  have hlen:pre.length+(vb u).length≤10:=by
   have h1:=qBU 9 v (by unfold B64 at HV0;omega)
   rw[HV.out] at h1
   simpa using h1
  have hpos:=qGE u
  by_cases hlt:u<128
  · have h1:(decide ((128:Int)≤(u:Int)))=false:=by simp;omega
    go_wp2_with (at_builtin
                 refine qA3 _ rfl (.tmp 14) (.tmp 17) rfl w.heap.size u3 pre.length pre rfl (HO.out.alloc _) (some ⟨wr.heap.size,0,none⟩) 1 1 [u] rfl rfl (·=wr.heap.size) (qFH wr _ u rfl) (by omega) (by have:=hbel.size;simp;omega) ?_
                 intro v1 w1 hown1 hg1 _)
    go_ret
    refine⟨v1,rfl,?_,(hbel.alloc hbel.size _).grown hg1 (by have:=hbel.size;simp;omega) (fun k hk=>(HO.out.lt k hk).1)⟩
    rw[HV.out,qCf u hlt]
    simpa using hown1
  · have h1:(decide ((128:Int)≤(u:Int)))=true:=by simp;omega
    go_wp2_with (at_builtin
                 refine qA3 _ rfl (.tmp 6) (.tmp 10) rfl w.heap.size u3 pre.length pre rfl (HO.out.alloc _) (some ⟨wr.heap.size,0,none⟩) 1 1 [u % 128+128] rfl rfl (·=wr.heap.size) (qFH wr _ (u % 128+128) (or128 u)) (by omega) (by have:=hbel.size;simp;omega) ?_
                 intro v1 w1 hown1 hg1 _)
    go_roundw
    case rel=>
     refine⟨u / 128,pre++[u % 128+128],by simp,by simpa using hown1,?_,by have:=HU.out;omega,(hbel.alloc hbel.size _).grown hg1 (by have:=hbel.size;simp;omega) (fun k hk=>(HO.out.lt k hk).1)⟩
     rw[HV.out,qEu u hlt]
     simp
    case measure=>simp[intOf];omega
theorem qBP (w:World) {ops:Array Oper} {o:Oper} {a:Act} {K:Act→World→Prop} {Q:Exit→Act→World→Prop} {E:Prop} (hgd:o.guard=none) (s x:Operand)
 (ho:o.op= .call {callee:= .builtin .append,args:= #[s,x],argTypes:= #[52,52]})
 (base:Nat) (v:Value) (n:Nat) (xs:List Nat) (hs:a.eval s=v) (hown:w.ownsRow base 5 1 v n (Bs xs)) (A:Option Addr) (m c:Nat) (ys:List Nat) (hx:a.eval x= .slice A m c) (hm:ys.length=m)
 (S:Nat→Prop) (hy:Byt S w A ys) (hbig:n+m≤140737488355328) (hbase:base≤w.heap.size)
 (h:∀v' w',w'.ownsRow base 5 1 v' (n+m) (Bs (xs++ys))→w.grownBy w' v.ownBlock→(v'.ownBlock=v.ownBlock∨v'.ownBlock=some w.heap.size)→K (a.put o.dst v') w'):
 if Region.wanted o (yielded ops a.tmps)=true then Oper.wp Tryz.prog o a w K Q else E:=by
 have hw:Region.wanted o (yielded ops a.tmps)=true:=by simp[Region.wanted,hgd]
 rw[if_pos hw]
 obtain⟨v',w',hrun,h2,h3,h4⟩:=qCK w base o.type v n xs hown A m c ys hm S hy hbig hbase
 unfold Oper.wp execOp
 simp only[ho,resolve,invoke,builtin,Sem.run_bind,Sem.run_pure,Result.andThen_ok,List.map_toArray,List.map_cons,List.map_nil,hs,hx,hrun]
 exact h v' w' h2 h3 h4
theorem qBY (s x:Operand) (t:TypeId) {d:Option Tmp} {ty:TypeId} {p:String} {af:Array Edge} {g:Option (Nat×Bool)} {y:Nat→Option Bool} {inst:Decidable (Region.wanted ⟨d,.call ⟨.builtin .append,#[s,x],#[t,t]⟩,ty,p,af,g⟩ y=true)} {W E:Prop}
 (h: @ite Prop (Region.wanted ⟨d,.call ⟨.builtin .append,#[s,x],#[t,t]⟩,ty,p,af,g⟩ y=true) inst W E): @ite Prop (Region.wanted ⟨d,.call ⟨.builtin .append,#[s,x],#[t,t]⟩,ty,p,af,g⟩ y=true) inst W E:=h
theorem qCJ (f:Nat) {d:Option Tmp} {ar:Array Operand} {at':Array TypeId} {ty:TypeId} {p:String} {af:Array Edge} {g:Option (Nat×Bool)} {y:Nat→Option Bool} {inst:Decidable (Region.wanted ⟨d,.call ⟨.value (.func f),ar,at'⟩,ty,p,af,g⟩ y=true)} {W E:Prop}
 (h: @ite Prop (Region.wanted ⟨d,.call ⟨.value (.func f),ar,at'⟩,ty,p,af,g⟩ y=true) inst W E): @ite Prop (Region.wanted ⟨d,.call ⟨.value (.func f),ar,at'⟩,ty,p,af,g⟩ y=true) inst W E:=h
theorem qAp {P:Program} {c:Code} {Q:Exit→Act→World→Prop} {a:Act} {w:World} (h:∀W,W=w→c.wp P Q a W):c.wp P Q a w:=h w rfl
theorem qCo {W w1:World} (hb:Below W.heap.size W w1):(∀b o,b<W.heap.size→w1.cell? ⟨b,o,none⟩=W.cell? ⟨b,o,none⟩)∧(∀b o,b<W.heap.size→w1.frozen? ⟨b,o,none⟩=W.frozen? ⟨b,o,none⟩):=
 ⟨fun b o h=>hb.cell (p:=⟨b,o,none⟩) h,fun b o h=>hb.frozen (p:=⟨b,o,none⟩) h⟩
theorem qCI {P:Program} {F:Nat} {args:Array Value} {w:World} {Q:Ending→World→Prop} (h:∀W,W=w→Calls P F args W Q):Calls P F args w Q:=h w rfl
theorem qAz (w:World) (t:TypeId) (cs:Array Value):Blk (w.alloc (.cells cs t)) w.heap.size t cs:=heap_alloc_new w _
theorem qBc {w:World} {b b':Nat} {v:Value} {n:Nat} {xs:List Value} (h:w.ownsRow b 5 1 v n xs) (hb:b'≤b):w.ownsRow b' 5 1 v n xs:=by
 refine⟨h.1,?_⟩
 rcases h.2 with h|⟨g',cap,cur,e,hb2,rest⟩
 · exact .inl h
 · exact .inr ⟨g',cap,cur,e,qBA hb hb2,rest⟩
theorem qG1 (w:World) (b:Nat):w.ownsRow b 5 1 (.slice none 0 0) 0 (Bs []):=⟨rfl,.inl ⟨rfl,rfl⟩⟩
def typB (k n:Int):List Nat:=vb k.toNat++vb n.toNat
theorem qDF (k n:Int) (hk:k≤9223372036854775807) (hn:n≤9223372036854775807):(typB k n).length≤20:=by
 have h1:=qBU 9 k.toNat qf
 have h2:=qBU 9 n.toNat qf
 simp[typB]
 omega
theorem qC3 (n:Int) (w:World) (h: -9223372036854775808≤n∧n≤9223372036854775807):
 Calls Tryz.prog 154 #[.int .i64 n] w fun e w'=>∃u,e= .returned u∧w'.ownsRow w.heap.size 5 1 u (vb n.toNat).length (Bs (vb n.toNat))∧Below w.heap.size w w':=by
 by_cases h0:0≤n
 · obtain⟨m,rfl⟩:∃m:Nat,n=(m:Int):=⟨n.toNat,by omega⟩
   have hm:m<B64:=by unfold B64;omega
   go_enter Tryz.func154,Tryz.ntmps154
   go_wp2_with (first|(go_at_call 138;refine(qBW m _ hm).mono ?_;rintro e w1 ⟨u,rfl,hown,hb⟩))
   go_ret
   exact⟨_,rfl,hown,hb⟩
 · go_enter Tryz.func154,Tryz.ntmps154
   go_wp2_with (first|(go_at_call 138;refine(qBW 0 _ zB).mono ?_;rintro e w1 ⟨u,rfl,hown,hb⟩))
   go_ret
   have e:n.toNat=0:=by omega
   rw[e]
   exact⟨_,rfl,hown,hb⟩
theorem kput (k n:Int) (w:World) (hk: -9223372036854775808≤k∧k≤9223372036854775807) (hn: -9223372036854775808≤n∧n≤9223372036854775807):
 Calls Tryz.prog 140 #[.agg #[.int .i64 k,.int .i64 n]] w fun e w'=>∃u,e= .returned u∧w'.ownsRow w.heap.size 5 1 u (typB k n).length (Bs (typB k n))∧Below w.heap.size w w':=by
 have PK:=qAZ (fun w=>qC3 k w hk)
 have PN:=qAZ (fun w=>qC3 n w hn)
 have hl:(vb k.toNat).length+(vb n.toNat).length≤140737488355328:=by
  have:=qDF k n hk.2 hn.2
  simp[typB] at this
  omega
 clear hk hn
 go_enter Tryz.func140,Tryz.ntmps140
 go_wp2_with fail
 refine qAp fun W hW=> ?_
 have c0:W.cell? ⟨w.heap.size,0,none⟩=some (.int .i64 k):=by rw[hW];simp[go_sem]
 have c1:W.cell? ⟨w.heap.size,1,none⟩=some (.int .i64 n):=by rw[hW];simp[go_sem]
 have HB0:Hid (Below w.heap.size w W):=by
  show Below w.heap.size w W
  rw[hW]
  exact(qAe _ _).alloc (qAf _) _
 have hs:w.heap.size<W.heap.size:=by rw[hW];simp
 clear hW
 have C1:=qAZ c1
 go_region_law (first
  |(with_reducible refine qBY (.tmp 5) (.tmp 8) 52 ?_
    refine qBP _ rfl (.tmp 5) (.tmp 8) rfl W.heap.size u1 (vb k.toNat).length (vb k.toNat) rfl HO1.out A2 (vb n.toNat).length c2 (vb n.toNat) rfl rfl _ HY2.out hl HS2.out ?_
    intro v3 w3 hown3 hg3 _
    have HO3:=qAZ hown3
    have HB3:=qAZ (HB2.out.grown hg3 HS2.out (fun i hi=>(HO1.out.lt i hi).1))
    clear hown3 hg3)
  |(with_reducible refine qCJ 154 ?_
    go_simp
    go_at_call 154
    with_reducible refine(PK.out _).mono ?_
    rintro e w1 ⟨u1,rfl,hown1,hb1⟩
    have HP1:=qAZ hown1
    have HB1:=qAZ (hb1.mono (qAf W.heap.size))
    have hcell1:w1.cell? ⟨w.heap.size,1,none⟩=some (.int .i64 n):=(hb1.cell (p:=⟨w.heap.size,1,none⟩) hs).trans C1.out
    clear hown1 hb1)
  |(with_reducible refine qCJ 154 ?_
    go_simp
    go_at_call 154
    with_reducible refine(PN.out _).mono ?_
    rintro e w2 ⟨u2,rfl,hown2,hb2⟩
    obtain⟨A2,c2,rfl,-,-,-,hY2⟩:=qA5 hown2
    have HY2:=qAZ hY2
    have HB2:=qAZ (HB1.out.trans (hb2.mono HB1.out.size))
    have HO1:=qAZ (qA4 HP1.out hb2 (qAf _))
    have HS2:=qAZ HB2.out.size
    clear hown2 hY2 hb2))
 all_goals
  go_wp2_with fail
  go_ret
  refine⟨_,rfl,?_,HB0.out.drew.trans (HB3.out.mono HB0.out.size)⟩
  rw[show(typB k n).length=(vb k.toNat).length+(vb n.toNat).length by simp[typB]]
  exact qBc HO3.out HB0.out.size
abbrev Ins:=Int×Int×Int
def i3 (t:Ins):List Value:=[.int .i64 t.1,.int .i64 t.2.1,.int .i64 t.2.2]
def I3:List Ins→List Value
 |[]=>[]
 |t::ts=>i3 t++I3 ts
def Iss (S:Nat→Prop) (w:World) (A:Option Addr) (ts:List Ins):Prop:=
 0<ts.length→∃a,A=some a∧S a.block∧∀j,j<ts.length→
  w.cell? (a.add (j*3))=some (.int .i64 (ts[j]?.getD (0,0,0)).1)∧w.cell? (a.add (j*3+1))=some (.int .i64 (ts[j]?.getD (0,0,0)).2.1)∧w.cell? (a.add (j*3+2))=some (.int .i64 (ts[j]?.getD (0,0,0)).2.2)
theorem Iss.nil (S:Nat→Prop) (w:World) (A:Option Addr):Iss S w A []:=fun h=>absurd h (by simp)
theorem Iss.keep {S:Nat→Prop} {w w':World} {A:Option Addr} {ts:List Ins} (h:Iss S w A ts) (hk:∀b,S b→w'.heap[b]? =w.heap[b]?):Iss S w' A ts:=fun hn=>by
 obtain⟨a,e,hs,hc⟩:=h hn
 refine⟨a,e,hs,fun j hj=> ?_⟩
 obtain⟨h0,h1,h2⟩:=hc j hj
 exact⟨(qAb (hk _ qAH)).trans h0,(qAb (hk _ qAH)).trans h1,(qAb (hk _ qAH)).trans h2⟩
theorem Iss.wide {S T:Nat→Prop} {w:World} {A:Option Addr} {ts:List Ins} (h:Iss S w A ts) (hk:∀b,S b→T b):Iss T w A ts:=fun hn=>by
 obtain⟨a,e,hs,hc⟩:=h hn
 exact⟨a,e,hk _ hs,hc⟩
theorem Iss.below {B B':Nat} {w w':World} {A:Option Addr} {ts:List Ins} (h:Iss (·<B) w A ts) (hb:Below B' w w') (hB:B≤B'):Iss (·<B) w' A ts:=h.keep fun b h1=>hb.block b (qAg h1 hB)
theorem Iss.at {S:Nat→Prop} {w:World} {A:Option Addr} {ts:List Ins} (h:Iss S w A ts) {k:Nat} (hk:k<ts.length):
 ∃a,A=some a∧S a.block∧w.cell? (a.add (k*3))=some (.int .i64 (ts[k]?.getD (0,0,0)).1)∧w.cell? (a.add (k*3+1))=some (.int .i64 (ts[k]?.getD (0,0,0)).2.1)∧w.cell? (a.add (k*3+2))=some (.int .i64 (ts[k]?.getD (0,0,0)).2.2):=by
 obtain⟨a,e,hs,hc⟩:=h (by omega)
 exact⟨a,e,hs,hc k hk⟩
def le:List Nat→Nat
 |[]=>0
 |x::xs=>x+256*le xs
def fb (v m:Nat):List Nat:=(List.range m).map fun j=>v / 256 ^ j % 256
theorem qCQ (v m:Nat):(fb v m).length=m:=by simp[fb]
theorem fb_succ (v m:Nat):fb v (m+1)=fb v m++[v / 256 ^ m % 256]:=by simp[fb,List.range_succ]
def wid (n:Int):Nat:=min n.toNat 8
theorem qIQ (n:Int):wid n≤8:=by unfold wid;omega
theorem qHB (n:Int) (w:World):Calls Tryz.prog 158 #[.int .i64 n] w fun e w'=>e= .returned (.int .i64 (wid n:Nat))∧w=w':=by
 go_enter Tryz.func158,Tryz.ntmps158
 go_wp2
 all_goals
  go_ret
  exact⟨qE0 (by unfold wid;omega),rfl⟩
def fz (v m i:Nat):List Nat:=(List.range m).map fun j=>if j<i then v / 256 ^ j % 256 else 0
theorem qHo (v m i:Nat):(fz v m i).length=m:=by simp[fz]
theorem fz_all (v m:Nat):fz v m m=fb v m:=by
 unfold fz fb
 refine List.map_congr_left fun j hj=> ?_
 rw[if_pos (List.mem_range.1 hj)]
theorem fz_zero (v m:Nat):Bs (fz v m 0)=List.replicate m (.int .u8 0):=by
 unfold Bs fz
 rw[List.eq_replicate_iff]
 refine⟨by simp,fun b hb=> ?_⟩
 simp at hb
 exact hb.2.symm
theorem fz_set (v m i:Nat):(Bs (fz v m i)).set i (.int .u8 ((v / 256 ^ i % 256:Nat):Int))=Bs (fz v m (i+1)):=by
 apply List.ext_getElem
 · simp[Bs,fz]
 · intro j h1 h2
   simp only[Bs,fz,List.getElem_set,List.getElem_map,List.getElem_range]
   by_cases hij:i=j
   · subst hij;simp
   · rw[if_neg hij]
     by_cases hj:j<i
     · rw[if_pos hj,if_pos (by omega)]
     · rw[if_neg hj,if_neg (by omega)]
theorem qIV (v k:Nat):(v:Int) / 2 ^ (8*k) % 256=((v / 256 ^ k % 256:Nat):Int):=by
 have:(256:Nat) ^ k=2 ^ (8*k):=by rw[Nat.pow_mul]
 rw[this]
 simp
theorem qC2 (v:Nat) (n:Int) (w:World) (hv:v<B64):
 Calls Tryz.prog 144 #[.int .u64 (v:Nat),.int .i64 n] w fun e w'=>∃u,e= .returned u∧w'.ownsRow w.heap.size 5 1 u (wid n) (Bs (fb v (wid n)))∧Below w.heap.size w w':=by
 obtain⟨i0,hi0,hz0,hz1,hz2⟩:=info_parts qDE
 have hw8:=qIQ n
 have HV:=qAZ hv
 clear hv
 go_enter Tryz.func144,Tryz.ntmps144
 go_wp2_with fail
 refine(qHB n w).mono ?_
 rintro e w' ⟨rfl,rfl⟩
 obtain⟨m,hm⟩:∃m,wid n=m:=⟨_,rfl⟩
 rw[hm] at hw8⊢
 have HM:=qAZ hm
 clear hm
 have hby:i0.bytes*m≤281474976710656:=by rw[hz2];omega
 have hml:m≤maxLen:=by simp[maxLen];omega
 go_wp2_with (at_make
              refine wpList_make_full _ rfl (.tmp 8) (.tmp 8) 52 rfl w.heap.size 5 i0 (.int .u8 0) 1 Tryz.underlying52 hi0 hz0 hz1 .i64 .i64 m m m rfl rfl rfl rfl hby hml (qAf _) ?_
              intro w1 hown1 hg1)
 have hown2:w1.ownsRow w.heap.size 5 1 (.slice (some ⟨w.heap.size,0,none⟩) m m) m (Bs (fz v m 0)):=by
  rw[fz_zero]
  have:=hown1
  rw[Nat.mul_one] at this
  have e:(madeCells (Value.int .u8 0).cells m).toList=List.replicate m (.int .u8 0):=toList_madeCells_one _ _
  rw[e] at this
  exact this
 have hb1:Below w.heap.size w w1:=(qAe _ w).grown hg1 (qAf _) (fun k hk=>by cases hk)
 clear hown1 hg1
 go_loopw [12] (fun i wr=>∃k:Nat,k≤m∧i= .int .i64 (k:Nat)∧wr.ownsRow w.heap.size 5 1 (.slice (some ⟨w.heap.size,0,none⟩) m m) m (Bs (fz v m k))∧Below w.heap.size w wr) (fun i _=>m-(intOf i).toNat)
 case atStart=>exact⟨0,qAs _,rfl,hown2,hb1⟩
 case round=>
  obtain⟨k,hk,rfl,hown,hbel⟩:=hrel
  have HO:=qAZ hown
  clear hown2 hb1
  by_cases hlt:k<m
  · have hc:=hown.cellAt k (by omega)
    rw[qFM _ _ (by rw[qHo];exact hlt)] at hc
    have hf:=hown.frozenAt k
    clear hown
    go_wp2
    have hst:=HO.out.stored k (.int .u8 ((v / 256 ^ k % 256:Nat):Int))
    rw[fz_set] at hst
    rw[qIV v k]
    exact⟨⟨k+1,by omega,by simp,hst.1,hbel.setCell (p:=⟨w.heap.size,k,none⟩) (qAf _) _⟩,by simp[intOf];omega⟩
  · obtain rfl:k=m:=by omega
    clear hown
    go_wp2
    go_ret
    refine⟨_,rfl,?_,hbel⟩
    rw[HM.out,←fz_all]
    exact HO.out
abbrev Typ:=Int×Int
structure Fn where
 args:List Typ
 ret:Typ
 locs:List Typ
 code:List Ins
structure Imp where
 args:List Typ
 ret:Typ
structure Mod where
 recs:List (List Typ)
 funcs:List Fn
 imps:List Imp
 ints:List Nat
 texts:List (List Nat)
noncomputable def eqB {α:Type} (a b:α):Bool:= @decide (a=b) (Classical.propDecidable _)
theorem qB7 {α:Type} {a b:α}:eqB a b=true↔a=b:=by
 unfold eqB
 exact @decide_eq_true_iff _ (Classical.propDecidable _)
theorem qEE {α:Type} (a:α):eqB a a=true:=qB7.2 rfl
theorem qDA {α:Type} {a b:α} (h:a≠b):eqB a b=false:=by
 cases e:eqB a b
 · rfl
 · exact absurd (qB7.1 e) h
theorem qEi {α:Type} {a b:α} (h:eqB a b=false):a≠b:=fun e=>by rw[e,qEE] at h;cases h
def tB (t:Typ):List Nat:=typB t.1 t.2
def iB (t:Ins):List Nat:=insB t.1 t.2.1 t.2.2
def lB {α:Type} (f:α→List Nat) (xs:List α):List Nat:=vb xs.length++(xs.map f).flatten
def fnB (f:Fn):List Nat:=lB tB f.args++(tB f.ret++(lB tB f.locs++lB iB f.code))
def impB (i:Imp):List Nat:=lB tB i.args++tB i.ret
def numB (n:Nat):List Nat:=fb n 8
def partsB (m:Mod):List (List Nat):=[lB (lB tB) m.recs,lB fnB m.funcs,lB impB m.imps,lB numB m.ints,lB pt m.texts]
def modB (m:Mod):List Nat:=joinB (partsB m)
def goodT (r:Int) (t:Typ):Bool:=goodB t.1 t.2 r
def goodIn (t:Ins):Bool:=goodI t.1 t.2.1 t.2.2
def witB {α:Type} (lo hi:Int) (g:α→Bool) (xs:List α):Bool:=decide (lo≤(xs.length:Int)∧(xs.length:Int)≤hi) && xs.all g
def recOk (r:Int) (ts:List Typ):Bool:=witB 0 6 (goodT r) ts
def fnOk (r:Int) (f:Fn):Bool:=witB 0 4 (goodT r) f.args && goodT r f.ret && witB 0 (8-(f.args.length:Int)) (goodT r) f.locs && witB 1 64 goodIn f.code
def impOk (r:Int) (i:Imp):Bool:=witB 0 4 (goodT r) i.args && goodT r i.ret
def shortB (s:List Nat):Bool:=decide (s.length≤32)
def fitB (m:Mod):Bool:=witB 0 8 (recOk m.recs.length) m.recs && witB 1 8 (fnOk m.recs.length) m.funcs && witB 0 8 (impOk m.recs.length) m.imps && decide (m.ints.length≤16) && witB 0 16 shortB m.texts
theorem qBv {α:Type} {lo hi:Int} {g:α→Bool} {xs:List α}:witB lo hi g xs=true↔(lo≤(xs.length:Int)∧(xs.length:Int)≤hi)∧∀x∈xs,g x=true:=by simp[witB]
def PF {α:Type} (f:α→List Nat) (g:α→Prop):Prop:=∀x y r s,g x→g y→f x++r=f y++s→x=y∧r=s
theorem PF.row {α:Type} {f:α→List Nat} {g:α→Prop} (h:PF f g):∀(xs ys:List α) (r s:List Nat),xs.length=ys.length→(∀x∈xs,g x)→(∀y∈ys,g y)→(xs.map f).flatten++r=(ys.map f).flatten++s→xs=ys∧r=s:=by
 intro xs
 induction xs with
 |nil=>
  intro ys r s hl _ _ e
  cases ys with
  |nil=>exact⟨rfl,by simpa using e⟩
  |cons y ys=>simp at hl
 |cons x xs ih=>
  intro ys r s hl hx hy e
  cases ys with
  |nil=>simp at hl
  |cons y ys=>
   simp only[List.map_cons,List.flatten_cons,List.append_assoc] at e
   obtain⟨rfl,e2⟩:=h x y _ _ (hx x (by simp)) (hy y (by simp)) e
   obtain⟨rfl,rfl⟩:=ih ys r s (by simpa using hl) (fun z hz=>hx z (by simp[hz])) (fun z hz=>hy z (by simp[hz])) e2
   exact⟨rfl,rfl⟩
def HasN {α:Type} (f:α→List Nat) (g:α→Prop) (n:Nat) (xs:List Nat):Prop:=∃(ys:List α) (rest:List Nat),ys.length=n∧(∀y∈ys,g y)∧xs=(ys.map f).flatten++rest
def Has {α:Type} (f:α→List Nat) (g:α→Prop) (xs:List Nat):Prop:=∃(y:α) (rest:List Nat),g y∧xs=f y++rest
theorem qHm {r:Int} {t:Typ} (hr:r≤8) (h:goodT r t=true):∃a b:Nat,t=((a:Int),(b:Int))∧a≤8∧b≤255:=by
 obtain⟨k,n⟩:=t
 simp only[goodT,goodB] at h
 split at h
 · rename_i hk
   exact j4
 · split at h
   · exact j4
   · split at h
     · exact j4
     · cases h
theorem qCn {r:Int} {f:Fn} (h:fnOk r f=true):f.args.length≤4∧f.args.length+f.locs.length≤8∧1≤f.code.length∧f.code.length≤64∧(∀t∈f.args,goodT r t=true)∧goodT r f.ret=true∧(∀t∈f.locs,goodT r t=true)∧∀t∈f.code,goodIn t=true:=by
 simp only[fnOk,Bool.and_eq_true,qBv] at h
 obtain⟨⟨⟨⟨h1,h2⟩,h3⟩,h4,h5⟩,h6,h7⟩:=h
 exact⟨by omega,by omega,by omega,by omega,h2,h3,h5,h7⟩
theorem qC0 {r:Int} {i:Imp} (h:impOk r i=true):i.args.length≤4∧(∀t∈i.args,goodT r t=true)∧goodT r i.ret=true:=by
 simp only[impOk,Bool.and_eq_true,qBv] at h
 exact⟨by omega,h.1.2,h.2⟩
theorem qDP {r:Int} {ts:List Typ} (h:recOk r ts=true):ts.length≤6∧∀t∈ts,goodT r t=true:=by
 simp only[recOk,qBv] at h
 exact⟨by omega,h.2⟩
theorem qBp {α:Type} (f:α→List Nat) (xs:List α) (M:Nat) (h:∀x∈xs,(f x).length≤M) (hl:xs.length<B64):(lB f xs).length≤10+xs.length*M:=by
 have h1:=qBU 9 xs.length (by unfold B64 at hl;simp;omega)
 have h2:∀zs:List α,(∀x∈zs,(f x).length≤M)→((zs.map f).flatten).length≤zs.length*M:=by
  intro zs
  induction zs with
  |nil=>simp
  |cons z zs ih=>
   intro hz
   have e1:=hz z (by simp)
   have e2:=ih fun x hx=>hz x (by simp[hx])
   simp only[List.map_cons,List.flatten_cons,List.length_append,List.length_cons,Nat.succ_mul]
   omega
 have h3:=h2 xs h
 simp only[lB,List.length_append]
 omega
theorem qC6 {r:Int} {t:Typ} (hr:r≤8) (h:goodT r t=true):(tB t).length≤4:=by
 obtain⟨a,b,rfl,ha,hb⟩:=qHm hr h
 have h1:=qBU 1 a qf
 have h2:=qBU 1 b qf
 simp[tB,typB]
 omega
theorem qE6 (t:Ins):(iB t).length≤5:=qI3 _ _ _
theorem qCE {r:Int} {ts:List Typ} (hr:r≤8) (hl:ts.length≤8) (h:∀t∈ts,goodT r t=true):(lB tB ts).length≤42:=by
 have:=qBp tB ts 4 (fun t ht=>qC6 hr (h t ht)) (by unfold B64;omega)
 omega
theorem qG3 {r:Int} {f:Fn} (hr:r≤8) (h:fnOk r f=true):(fnB f).length≤500:=by
 obtain⟨a1,a2,a3,a4,a5,a6,a7,a8⟩:=qCn h
 have h1:=qCE hr (by omega) a5
 have h2:=qC6 hr a6
 have h3:=qCE hr (by omega) a7
 have h4:=qBp iB f.code 5 (fun t _=>qE6 t) (by unfold B64;omega)
 simp only[fnB,List.length_append]
 omega
theorem qI5 {r:Int} {f:Imp} (hr:r≤8) (h:impOk r f=true):(impB f).length≤50:=by
 obtain⟨a1,a2,a3⟩:=qC0 h
 have h1:=qCE hr (by omega) a2
 have h2:=qC6 hr a3
 simp only[impB,List.length_append]
 omega
structure Fit (m:Mod):Prop where
 r8:(m.recs.length:Int)≤8
 recs:∀t∈m.recs,recOk m.recs.length t=true
 f1:1≤m.funcs.length
 f8:m.funcs.length≤8
 funcs:∀f∈m.funcs,fnOk m.recs.length f=true
 i8:m.imps.length≤8
 imps:∀f∈m.imps,impOk m.recs.length f=true
 n16:m.ints.length≤16
 t16:m.texts.length≤16
 texts:∀s∈m.texts,s.length≤32
theorem qBJ {m:Mod}:fitB m=true↔Fit m:=by
 simp only[fitB,Bool.and_eq_true,qBv,decide_eq_true_eq]
 constructor
 · rintro⟨⟨⟨⟨⟨h1,h2⟩,h3,h4⟩,h5,h6⟩,h7⟩,h8,h9⟩
   exact⟨h1.2,h2,by omega,by omega,h4,by omega,h6,h7,by omega,fun s hs=>by simpa[shortB] using h9 s hs⟩
 · rintro⟨h1,h2,h3,h4,h5,h6,h7,h8,h9,h10⟩
   exact⟨⟨⟨⟨⟨by omega,h2⟩,by omega,h5⟩,by omega,h7⟩,h8⟩,by omega,fun s hs=>by simpa[shortB] using h10 s hs⟩
theorem Fit.parts_len {m:Mod} (h:Fit m):∀j,j<(partsB m).length→((partsB m)[j]?.getD []).length≤5000:=by
 have hB:(64:Nat)<B64:=by unfold B64;omega
 have hr:=h.r8
 have b0:=qBp (lB tB) m.recs 42 (fun x hx=>by have:=qDP (h.recs x hx);exact qCE h.r8 (by omega) this.2) (by omega)
 have b1:=qBp fnB m.funcs 500 (fun x hx=>qG3 h.r8 (h.funcs x hx)) (by have:=h.f8;omega)
 have b2:=qBp impB m.imps 50 (fun x hx=>qI5 h.r8 (h.imps x hx)) (by have:=h.i8;omega)
 have b3:=qBp numB m.ints 8 (fun x _=>by simp[numB,qCQ]) (by have:=h.n16;omega)
 have b4:=qBp pt m.texts 42 (fun x hx=>by have h1:=h.texts x hx;have h2:=qBU 9 x.length qf;simp[pt];omega) (by have:=h.t16;omega)
 have:=h.f8
 have:=h.i8
 have:=h.n16
 have:=h.t16
 intro j hj
 match j,hj with
 |0,_=>simp[partsB];omega
 |1,_=>simp[partsB];omega
 |2,_=>simp[partsB];omega
 |3,_=>simp[partsB];omega
 |4,_=>simp[partsB];omega
 |j+5,hj=>exact absurd hj (by simp[partsB])
theorem Fit.len {m:Mod} (h:Fit m):(modB m).length≤30000:=by
 have:=qDc (partsB m) 5000 (by unfold B64;omega) (by simp[partsB];unfold B64;omega) h.parts_len
 simp[partsB] at this
 simp[modB,partsB]
 omega
structure Lay (α:Type) where
 k:Nat
 R:(Nat→Prop)→World→List Value→α→Prop
 len:∀{S w cs x},R S w cs x→cs.length=k
 keep:∀{S:Nat→Prop} {w w':World} {cs:List Value} {x:α},R S w cs x→(∀b,S b→w'.heap[b]? =w.heap[b]?)→R S w' cs x
 wide:∀{S T:Nat→Prop} {w:World} {cs:List Value} {x:α},R S w cs x→(∀b,S b→T b)→R T w cs x
 one:∀{S w cs x},R S w cs x→∀u∈cs,u.oneCell'=true
def Sq {α:Type} (L:Lay α) (S:Nat→Prop) (w:World) (A:Option Addr) (xs:List α):Prop:=
 0<xs.length→∃a,A=some a∧S a.block∧∀j x,xs[j]? =some x→∃cs,(∀i u,cs[i]? =some u→w.cell? (a.add (j*L.k+i))=some u)∧L.R S w cs x
theorem Sq.nil {α:Type} (L:Lay α) (S:Nat→Prop) (w:World) (A:Option Addr):Sq L S w A []:=fun h=>absurd h (by simp)
theorem Sq.keep {α:Type} {L:Lay α} {S:Nat→Prop} {w w':World} {A:Option Addr} {xs:List α} (h:Sq L S w A xs) (hk:∀b,S b→w'.heap[b]? =w.heap[b]?):Sq L S w' A xs:=fun hn=>by
 obtain⟨a,e,hs,hc⟩:=h hn
 refine⟨a,e,hs,fun j x hx=> ?_⟩
 obtain⟨cs,h1,h2⟩:=hc j x hx
 exact⟨cs,fun i u hu=>(qAb (hk _ qAH)).trans (h1 i u hu),L.keep h2 hk⟩
theorem Sq.wide {α:Type} {L:Lay α} {S T:Nat→Prop} {w:World} {A:Option Addr} {xs:List α} (h:Sq L S w A xs) (hk:∀b,S b→T b):Sq L T w A xs:=fun hn=>by
 obtain⟨a,e,hs,hc⟩:=h hn
 refine⟨a,e,hk _ hs,fun j x hx=> ?_⟩
 obtain⟨cs,h1,h2⟩:=hc j x hx
 exact⟨cs,h1,L.wide h2 hk⟩
theorem Sq.below {α:Type} {L:Lay α} {B B':Nat} {w w':World} {A:Option Addr} {xs:List α} (h:Sq L (·<B) w A xs) (hb:Below B' w w') (hB:B≤B'):Sq L (·<B) w' A xs:=h.keep fun b h1=>hb.block b (qAg h1 hB)
theorem Sq.at {α:Type} {L:Lay α} {S:Nat→Prop} {w:World} {A:Option Addr} {xs:List α} (h:Sq L S w A xs) {k:Nat} {x:α} (hk:xs[k]? =some x):
 ∃a cs,A=some a∧S a.block∧(∀i u,cs[i]? =some u→w.cell? (a.add (k*L.k+i))=some u)∧L.R S w cs x:=by
 obtain⟨a,e,hs,hc⟩:=h (by have:=(qAh.1 hk).1;omega)
 obtain⟨cs,h1,h2⟩:=hc k x hk
 exact⟨a,cs,e,hs,h1,h2⟩
def slL {α:Type} (L:Lay α):Lay (List α) where
 k:=1
 R S w cs xs:=∃A c,cs=[.slice A xs.length c]∧xs.length≤c∧c≤maxLen∧Sq L S w A xs
 len:=by rintro S w cs x ⟨A,c,rfl,_⟩;rfl
 keep:=by rintro S w w' cs x ⟨A,c,rfl,h1,h2,h3⟩ hk;exact⟨A,c,rfl,h1,h2,h3.keep hk⟩
 wide:=by rintro S T w cs x ⟨A,c,rfl,h1,h2,h3⟩ hk;exact⟨A,c,rfl,h1,h2,h3.wide hk⟩
 one:=by rintro S w cs x ⟨A,c,rfl,_⟩ u hu;simp at hu;subst hu;rfl
def I64 (n:Int):Prop:= -9223372036854775808≤n∧n≤9223372036854775807
def numL:Lay Nat where
 k:=1
 R _ _ cs n:=cs=[.int .u64 (n:Int)]∧n<B64
 len:=by rintro S w cs x ⟨rfl,_⟩;rfl
 keep:=by rintro S w w' cs x h _;exact h
 wide:=by rintro S T w cs x h _;exact h
 one:=by rintro S w cs x ⟨rfl,_⟩ u hu;simp at hu;subst hu;rfl
def Owns {α:Type} (L:Lay α) (ty base:Nat) (w:World) (v:Value) (xs:List α):Prop:=
 ∃css:List (List Value),css.length=xs.length∧w.ownsRow base ty L.k v xs.length css.flatten∧
  ∀(j:Nat) (x:α) (cs:List Value),xs[j]? =some x→css[j]? =some cs→L.R (fun b=>base≤b∧b<w.heap.size∧v.ownBlock≠some b) w cs x
theorem Owns.nil {α:Type} (L:Lay α) (ty base:Nat) (w:World):Owns L ty base w (.slice none 0 0) ([]:List α):=
 ⟨[],rfl,World.ownsRow_nil _ _ _ _,fun j x cs h=>by simp at h⟩
theorem qCD {css:List (List Value)} {k:Nat} (hk:∀cs∈css,cs.length=k) {j:Nat} {cs:List Value} (hj:css[j]? =some cs) (i:Nat) (hi:i<k):css.flatten[j*k+i]? =cs[i]? :=by
 induction css generalizing j with
 |nil=>simp at hj
 |cons c css ih=>
  have hc:=hk c (by simp)
  cases j with
  |zero=>
   simp at hj
   subst hj
   rw[List.flatten_cons,List.getElem?_append_left (by omega)]
   simp
  |succ j=>
   rw[List.flatten_cons,List.getElem?_append_right (by rw[hc,Nat.succ_mul];omega),hc,show(j+1)*k+i-k=j*k+i by rw[Nat.succ_mul];omega]
   exact ih (fun x hx=>hk x (by simp[hx])) (by simpa using hj)
theorem Owns.slice {α:Type} {L:Lay α} {ty base:Nat} {w:World} {v:Value} {xs:List α} (h:Owns L ty base w v xs):
 (slL L).R (fun b=>base≤b∧b<w.heap.size) w [v] xs:=by
 obtain⟨css,hl,hown,hR⟩:=h
 have hk:∀cs∈css,cs.length=L.k:=fun cs hcs=>by
  obtain⟨j,hj⟩:=qA8.1 hcs
  have hjl:j<xs.length:=by rw[←hl];exact(qAh.1 hj).1
  exact L.len (hR j _ cs (qAa hjl) hj)
 rcases hown.2 with⟨rfl,h0⟩|⟨g,cap,cur,rfl,hb,hg,hnc,hcm,_,_⟩
 · exact ji
 · refine⟨some ⟨g,0,none⟩,cap,rfl,hnc,hcm,fun _=>⟨⟨g,0,none⟩,rfl,⟨hb,(Array.getElem?_eq_some_iff.1 hg).1⟩,fun j x hx=> ?_⟩⟩
   have hjl:j<css.length:=by rw[hl];exact(qAh.1 hx).1
   have hcs:=qAa hjl
   have hr:=hR j x _ hx hcs
   refine⟨_,fun i u hu=> ?_,L.wide hr fun b hb=>⟨hb.1,hb.2.1⟩⟩
   have hi:i<L.k:=by rw[←L.len hr];exact(qAh.1 hu).1
   exact hown.cells rfl (j*L.k+i) u (by rw[qCD hk hcs i hi];exact hu)
theorem Owns.lt {α:Type} {L:Lay α} {ty base:Nat} {w:World} {v:Value} {xs:List α} (h:Owns L ty base w v xs):∀i,v.ownBlock=some i→base≤i∧i<w.heap.size:=by
 obtain⟨css,hl,hown,hR⟩:=h
 exact fun i hi=>⟨(hown.lt i hi).1,(hown.lt i hi).2⟩
theorem Owns.kept {α:Type} {L:Lay α} {ty base:Nat} {w w':World} {v:Value} {xs:List α} (h:Owns L ty base w v xs) {g:Nat} (hg:g<base) (ho:Only g w w'):Owns L ty base w' v xs:=by
 have hlt:=h.lt
 obtain⟨css,hl,hown,hR⟩:=h
 refine⟨css,hl,hown.kept (row:=some g) ho (.inr fun e=>by have:=hlt g e;omega),fun j x cs h1 h2=> ?_⟩
 refine L.wide (L.keep (hR j x cs h1 h2) fun b hb=>ho.block b hb.2.1 (fun e=>by injection e;omega)) fun b hb=>⟨hb.1,qAg hb.2.1 ho.size,hb.2.2⟩
def vOne:List Value→Value
 |[v]=>v
 |_=> .nilFunc
def vAgg (cs:List Value):Value:= .agg cs.toArray
def Tells (b:Bool) (w:World) (e:Ending) (w':World):Prop:=e= .returned (.bool b)∧Below w.heap.size w w'
theorem qEM {α:Type} {g:α→Bool} {xs:List α} {k:Nat} {x:α} (h:(xs.take k).all g=true) (hx:xs[k]? =some x) (hg:g x=true):(xs.take (k+1)).all g=true:=by
 obtain⟨hk,rfl⟩:=qAh.1 hx
 rw[qAu hk,List.all_append,h]
 simp[hg]
theorem qBC {w:World} {a:Addr} {k K:Nat} {o:Option Value} (hK:K=1) (h:w.cell? (a.add (k*K+0))=o):w.cell? (a.add k)=o:=by
 subst hK
 simpa using h
theorem qCs {α:Type} {xs ys:List α} {k:Nat} {x y:α} (h:xs.take k=ys.take k) (hx:xs[k]? =some x) (hy:ys[k]? =some y) (e:x=y):xs.take (k+1)=ys.take (k+1):=by
 obtain⟨hk,rfl⟩:=qAh.1 hx
 obtain⟨hk2,rfl⟩:=qAh.1 hy
 rw[qAu hk,qAu hk2,h,e]
theorem qE7 {α:Type} {xs ys:List α} {k:Nat} {x y:α} (hx:xs[k]? =some x) (hy:ys[k]? =some y) (e:¬x=y):xs≠ys:=by
 rintro rfl
 rw[hx] at hy
 exact e (Option.some.inj hy)
theorem qAl (a:Addr) (m i:Nat) (hi:0<i):a.add (m+i)=⟨(a.add m).block,(a.add m).off+i,none⟩:=by
 rw[←qEN]
 generalize a.add m=x
 have:i≠0:=by omega
 simp[Addr.add,this]
theorem qF4 {B:Nat} {w w':World} {row:Option Nat} (hg:w.grownBy w' row) (hB:B≤w.heap.size) (hr:∀i,row=some i→B≤i):Below B w w':=(qAe B w).grown hg hB hr
theorem qA7 (w:World) (q:Nat):Below w.heap.size w (w.drewN q):=⟨rfl,rfl,rfl,qAf _,fun _ _=>rfl⟩
theorem qCc {B:Nat} {w w1:World} (h:Below B w w1) (q:Nat) (hB:B≤w1.heap.size):Below B w (w1.drewN q):=h.trans ((qA7 w1 q).mono hB)
end Go.Proofs.YtconajaecpgjgaaGreat
