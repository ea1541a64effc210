/-
Ohn
-/
import Derived.Test.YtconajaecpgjgaaGreatQ02
import Derived.Test.YtconajaecpgjgaaGreatQ07
set_option linter.unusedSimpArgs false
set_option linter.unusedVariables false
set_option maxRecDepth 100000
namespace Go.Proofs.YtconajaecpgjgaaGreat
open Go.RowKit
theorem zU {P:Prop} (h:P:=by
 go_wp2_with (first
  |(go_at_call 9
    refine(RM1.out _ (HBB.out _ HB1.out)).mono ?_
    rintro e w2 ⟨rfl,hb_w2⟩
    have HB2:=qAU (HB1.out.trans (hb_w2.mono HB1.out.size))
    clear hb_w2)
  |(go_at_call 7
    refine(AN.out _).mono ?_
    rintro e w3 ⟨rfl,hb_w3⟩
    have HB3:=qAU (HB2.out.trans (hb_w3.mono HB2.out.size))
    clear hb_w3))
 go_ret
 exact⟨rfl,HBB.out _ HB3.out⟩):P:=h
theorem qAG {P:Prop} (h:P:=by
 go_wp2_with fail
 exact⟨⟨k+1,by omega,by rw[HST.out,HKI.out];simp[p1,p3],by simp,by trivial⟩,by simp[intOf];omega⟩):P:=h
open Go.ChangeShapes Go.WideShapes Go.ChangeAt Go.RowKit
theorem qH1:Opens 51 hdL:=by
 intro H enc W cs x fuel hf
 obtain⟨xs,k,hk,hxy,hl,hxl,hfl⟩:=DataW.trod_struct Tryz.underlying51 hf
 rw[show Tryz.prog.cellsOf 51=3 by kernel_rfl] at hl
 match xs,hxl,cs,hl with
 |[y0,y1,y2],_,[v0,v1,v2],_=>
  have g0:=hfl 0 _ rfl
  have g1:=hfl 1 _ rfl
  have g2:=hfl 2 _ rfl
  simp[show Tryz.prog.cellsOf 3=1 by kernel_rfl,show Tryz.prog.cellsOf 34=1 by kernel_rfl,show Tryz.prog.cellsOf 4=1 by kernel_rfl] at g0 g1 g2
  obtain⟨z0,e0,_,b0⟩:=DataW.trod_int Tryz.underlying3 g0
  obtain⟨z1,e1,_,b1⟩:=DataW.trod_int Tryz.underlying34 g1
  obtain⟨b,e2,_⟩:=DataW.trod_bool Tryz.underlying4 g2
  simp at e0 e1 e2
  subst e0 e1 e2
  have c1:=bounds_u64 b1
  refine⟨⟨z0,z1.toNat,b⟩,?_,qCp b0,?_⟩
  · show[Value.int .i64 z0,Value.int .u64 z1,Value.bool b]=[Value.int .i64 z0,Value.int .u64 (z1.toNat:Int),Value.bool b]
    rw[Int.toNat_of_nonneg c1.1]
  · show z1.toNat<B64
    unfold B64
    omega
theorem qGt:Opens 33 (slL hdL):=qFz jz Tryz.underlying33 qQ qH1
theorem qH3 {H:Type} {enc:TypeId×Value→H} {W:World} {a:Option Addr} {len cap:Nat} {d:DataW H} {p:List MemPlace} (h:DataW.Trod enc Tryz.prog W 0 (fun _=>true) true 33 (.slice a len cap) d p):
 ∃L:List Hnd,L.length=len∧(slL hdL).R (·<W.heap.size) W [.slice a len cap] L:=by
 obtain⟨fuel,hf⟩:=h
 obtain⟨L,hL⟩:=qGt hf
 have hL':(slL hdL).R (·<W.heap.size) W [.slice a len cap] L:=by simpa[Value.cells] using hL
 have h2:=hL'
 obtain⟨A,c,e,-⟩:=h2
 simp at e
 exact⟨L,e.2.1.symm,hL'⟩
end Go.Proofs.YtconajaecpgjgaaGreat
