/-
Mba
-/
import Derived.Test.YtgdbhanhmenmfaaGreatQ09
import Derived.Test.YtgdbhanhmenmfaaGreatQ11
set_option linter.unusedSimpArgs false
set_option linter.unusedVariables false
set_option maxRecDepth 100000
set_option maxHeartbeats 2000000
namespace Go.Proofs.YtgdbhanhmenmfaaGreat
open Go.RowKit
variable {w:World}
theorem qNb {S:Nat→Prop} {b n:Nat} (h:Blk w b 32 (madeCells #[.int .u64 0] n)) (hn:n≤1000) (hS:S b):wrdL.R S w [.slice (some ⟨b,0,none⟩) n n] (List.replicate n 0):=by
 refine⟨some ⟨b,0,none⟩,n,by simp,by simp,by unfold maxLen;omega,fun _=>⟨_,rfl,hS,fun j x hx=>⟨[.int .u64 (x:Int)],fun i u hu=> ?_,rfl,?_⟩⟩⟩
 · obtain⟨hj,e⟩:=qBM.1 hx
   rw[List.length_replicate] at hj;simp at e;subst e
   match i,hu with
   |0,hu=>
    simp at hu;subst hu;rw[add_zero,show j*numL.k+0=j by show j*1+0=j;omega,h.cell];simp[madeCells,hj,Nat.mod_one]
   |i+1,hu=>simp at hu
 · obtain⟨hj,e⟩:=qBM.1 hx
   simp at e;subst e;unfold B64
   omega
theorem qKY {S1 X n:Nat} {q:Int} (h1:Blk w S1 32 (madeCells #[.int .u64 0] n)) (h2:Blk w X 80 #[.int .i64 0,.int .i64 0,.slice (some ⟨S1,0,none⟩) n n,.slice none 0 0]) (hn:n≤1000) (hq:I64 q):
 stL.R (·<w.heap.size) w [.slice (some ⟨X,0,none⟩) 1 1,.slice none 0 0,.slice none 0 0,.int .i64 q,.int .i64 0,.int .i64 0,.int .u64 0] (beginS n q):=
 have z:I64 0:=⟨by decide,by decide⟩
 ⟨_,_,_,rfl,one_sl (L:=frL) (x:=⟨0,0,List.replicate n 0,[]⟩) h2 h2.lt ⟨_,_,rfl,z,z,qNb h1 hn h1.lt,qFo _ _ _⟩,qFo _ _ _,qFo _ _ _,hq,z,z,by show(0:Nat)<B64;unfold B64;omega⟩
theorem run_fr1 (w:World) (b n:Nat):(Instr.build 80 #[(2,.slice (some ⟨b,0,none⟩) n n)]).run Tryz.prog w= .ok (.agg #[.int .i64 0,.int .i64 0,.slice (some ⟨b,0,none⟩) n n,.slice none 0 0]) w:=by kernel_rfl
theorem run_st2 (w:World) (b:Nat) (q:Int):(Instr.build 34 #[(0,.slice (some ⟨b,0,none⟩) 1 1),(3,.int .i64 q)]).run Tryz.prog w= .ok (.agg #[.slice (some ⟨b,0,none⟩) 1 1,.slice none 0 0,.slice none 0 0,.int .i64 q,.int .i64 0,.int .i64 0,.int .u64 0]) w:=by kernel_rfl
theorem qKI {A0 A1 A2 A3 A4:Option Addr} {n0 n1 n2 n3 n4 d0 d1 d2 d3 d4:Nat} {m:Mod} {fn:Fn} {fs:List Fn} (h:modL.R (·<w.heap.size) w [.slice A0 n0 d0,.slice A1 n1 d1,.slice A2 n2 d2,.slice A3 n3 d3,.slice A4 n4 d4] m) (hf:m.funcs=fn::fs):
 ∃a P c,A1=some a∧0<n1∧a.block<w.heap.size∧w.cell? ⟨a.block,a.off+3,none⟩=some (.slice P fn.locs.length c):=by
 obtain⟨_,_,_,_,_,ex,-,⟨A',d',ex1,-,-,s1⟩,-⟩:=h;simp only[List.cons.injEq,and_true] at ex;obtain⟨-,rfl,-⟩:=ex;simp only[List.cons.injEq,Value.slice.injEq,and_true] at ex1;obtain⟨rfl,e2,rfl⟩:=ex1;have h0:m.funcs[0]? =some fn:=by rw[hf];rfl
 obtain⟨a,cs,e,hs,hc,p0,p1,p2,rfl,-,-,⟨P0,c0,e4,-⟩,⟨P1,c1,e5,-⟩,⟨P2,c2,e6,-⟩⟩:=s1.at h0;simp only[List.cons.injEq,and_true] at e4 e5 e6;subst e4 e5 e6;have k3:=hc 3 _ rfl;rw[show 0*fnL.k+3=3 from rfl,show a.add 3=⟨a.block,a.off+3,none⟩ by simp[Addr.add]] at k3;exact⟨a,P1,c1,e,by rw[e2,hf];simp,hs,k3⟩
theorem qMQ {v:World} {p:Addr} {u:Value} (h:w.cell? p=some u) (hb:Below w.heap.size w v):v.cell? p=some u:=(hb.cell (qBR w _ h)).trans h
theorem rbegin_yes (cs:List Value) (m:Mod) (fn:Fn) (fs:List Fn) (q:Int) (w:World) (h:modL.R (·<w.heap.size) w cs m) (hf:m.funcs=fn::fs) (hn:fn.locs.length≤1000) (hq:I64 q):
 Calls Tryz.prog 23 #[vAgg cs,.int .i64 q] w fun e w'=>∃cs',e= .returned (vAgg cs')∧stL.R (·<w'.heap.size) w' cs' (beginS fn.locs.length q)∧Below w.heap.size w w':=by
 obtain⟨A0,A1,A2,A3,A4,n0,n1,n2,n3,n4,d0,d1,d2,d3,d4,rfl⟩:=qCj h;obtain⟨a,P,c,rfl,hn1,hab,k3⟩:=qKI h hf;obtain⟨nl,hnl⟩:∃x,fn.locs.length=x:=⟨_,rfl⟩;rw[hnl] at k3 hn⊢;have M1:=qFd nl hn;have M2:=run_fr1;have M3:=run_st2;have hn1i:(0:Int)<(n1:Int):=by omega
 have HK3:=qBK k3;have HQ:=qBK hq
 show Calls Tryz.prog 23 #[.agg #[.slice A0 n0 d0,.slice (some a) n1 d1,.slice A2 n2 d2,.slice A3 n3 d3,.slice A4 n4 d4],.int .i64 q] w fun e w'=>∃cs',e= .returned (vAgg cs')∧stL.R (·<w'.heap.size) w' cs' (beginS nl q)∧Below w.heap.size w w'
 obtain⟨N,hN⟩:∃N,w.heap.size=N:=⟨_,rfl⟩;clear h hf k3 hnl hq
 go_enter Tryz.func23,Tryz.ntmps23
 go_upto_region 1 with(fail)
 refine qBV fun W hW=> ?_;have HB0:Hid (Below w.heap.size w W):=by show Below _ _ _;rw[hW];exact((qBO _ _).alloc (qBL _) _).alloc (by simp) _
 have HK0:Hid (Blk W N 28 #[.slice A0 n0 d0,.slice (some a) n1 d1,.slice A2 n2 d2,.slice A3 n3 d3,.slice A4 n4 d4]):=by show Blk _ _ _ _;rw[hW];exact qBc (qBl hN)
 refine qAm ?_;intro HK1 hsW;clear hW;have y1:=HK0.out.cell 1;have x3:=qMQ HK3.out HB0.out;have HKR:Hid (Blk W (N+1) 34 #[.slice none 0 0,.slice none 0 0,.slice none 0 0,.int .i64 0,.int .i64 0,.int .i64 0,.int .u64 0]):=HK1;have r0:∀(o o':Obj),((W.alloc o).alloc o').cell? ⟨N+1,0,none⟩=some (.slice none 0 0):=fun o o'=>(qBc (o:=o') (qBc (o:=o) HKR.out)).cell 0;have f0:∀(o o':Obj),((W.alloc o).alloc o').frozen? ⟨N+1,0,none⟩=false:=fun o o'=>(qBc (o:=o') (qBc (o:=o) HKR.out)).frozen 0;have r1:∀(v0:Value) (o o':Obj),(((W.setCell ⟨N+1,0,none⟩ v0).alloc o).alloc o').cell? ⟨N+1,1,none⟩=some (.slice none 0 0):=fun v0 o o'=>(qBc (o:=o') (qBc (o:=o) (HKR.out.set 0 v0))).cell 1;have f1:∀(v0:Value) (o o':Obj),(((W.setCell ⟨N+1,0,none⟩ v0).alloc o).alloc o').frozen? ⟨N+1,1,none⟩=false:=fun v0 o o'=>(qBc (o:=o') (qBc (o:=o) (HKR.out.set 0 v0))).frozen 1;have r2:∀(v0 v1:Value) (o o':Obj),((((W.setCell ⟨N+1,0,none⟩ v0).setCell ⟨N+1,1,none⟩ v1).alloc o).alloc o').cell? ⟨N+1,2,none⟩=some (.slice none 0 0):=fun v0 v1 o o'=>(qBc (o:=o') (qBc (o:=o) ((HKR.out.set 0 v0).set 1 v1))).cell 2;have f2:∀(v0 v1:Value) (o o':Obj),((((W.setCell ⟨N+1,0,none⟩ v0).setCell ⟨N+1,1,none⟩ v1).alloc o).alloc o').frozen? ⟨N+1,2,none⟩=false:=fun v0 v1 o o'=>(qBc (o:=o') (qBc (o:=o) ((HKR.out.set 0 v0).set 1 v1))).frozen 2;have r3:∀(v0 v1 v2:Value) (o o':Obj),(((((W.setCell ⟨N+1,0,none⟩ v0).setCell ⟨N+1,1,none⟩ v1).setCell ⟨N+1,2,none⟩ v2).alloc o).alloc o').cell? ⟨N+1,3,none⟩=some (.int .i64 0):=fun v0 v1 v2 o o'=>(qBc (o:=o') (qBc (o:=o) (((HKR.out.set 0 v0).set 1 v1).set 2 v2))).cell 3;have f3:∀(v0 v1 v2:Value) (o o':Obj),(((((W.setCell ⟨N+1,0,none⟩ v0).setCell ⟨N+1,1,none⟩ v1).setCell ⟨N+1,2,none⟩ v2).alloc o).alloc o').frozen? ⟨N+1,3,none⟩=false:=fun v0 v1 v2 o o'=>(qBc (o:=o') (qBc (o:=o) (((HKR.out.set 0 v0).set 1 v1).set 2 v2))).frozen 3;have r4:∀(v0 v1 v2 v3:Value) (o o':Obj),((((((W.setCell ⟨N+1,0,none⟩ v0).setCell ⟨N+1,1,none⟩ v1).setCell ⟨N+1,2,none⟩ v2).setCell ⟨N+1,3,none⟩ v3).alloc o).alloc o').cell? ⟨N+1,4,none⟩=some (.int .i64 0):=fun v0 v1 v2 v3 o o'=>(qBc (o:=o') (qBc (o:=o) ((((HKR.out.set 0 v0).set 1 v1).set 2 v2).set 3 v3))).cell 4;have f4:∀(v0 v1 v2 v3:Value) (o o':Obj),((((((W.setCell ⟨N+1,0,none⟩ v0).setCell ⟨N+1,1,none⟩ v1).setCell ⟨N+1,2,none⟩ v2).setCell ⟨N+1,3,none⟩ v3).alloc o).alloc o').frozen? ⟨N+1,4,none⟩=false:=fun v0 v1 v2 v3 o o'=>(qBc (o:=o') (qBc (o:=o) ((((HKR.out.set 0 v0).set 1 v1).set 2 v2).set 3 v3))).frozen 4;have r5:∀(v0 v1 v2 v3 v4:Value) (o o':Obj),(((((((W.setCell ⟨N+1,0,none⟩ v0).setCell ⟨N+1,1,none⟩ v1).setCell ⟨N+1,2,none⟩ v2).setCell ⟨N+1,3,none⟩ v3).setCell ⟨N+1,4,none⟩ v4).alloc o).alloc o').cell? ⟨N+1,5,none⟩=some (.int .i64 0):=fun v0 v1 v2 v3 v4 o o'=>(qBc (o:=o') (qBc (o:=o) (((((HKR.out.set 0 v0).set 1 v1).set 2 v2).set 3 v3).set 4 v4))).cell 5;have f5:∀(v0 v1 v2 v3 v4:Value) (o o':Obj),(((((((W.setCell ⟨N+1,0,none⟩ v0).setCell ⟨N+1,1,none⟩ v1).setCell ⟨N+1,2,none⟩ v2).setCell ⟨N+1,3,none⟩ v3).setCell ⟨N+1,4,none⟩ v4).alloc o).alloc o').frozen? ⟨N+1,5,none⟩=false:=fun v0 v1 v2 v3 v4 o o'=>(qBc (o:=o') (qBc (o:=o) (((((HKR.out.set 0 v0).set 1 v1).set 2 v2).set 3 v3).set 4 v4))).frozen 5;have r6:∀(v0 v1 v2 v3 v4 v5:Value) (o o':Obj),((((((((W.setCell ⟨N+1,0,none⟩ v0).setCell ⟨N+1,1,none⟩ v1).setCell ⟨N+1,2,none⟩ v2).setCell ⟨N+1,3,none⟩ v3).setCell ⟨N+1,4,none⟩ v4).setCell ⟨N+1,5,none⟩ v5).alloc o).alloc o').cell? ⟨N+1,6,none⟩=some (.int .u64 0):=fun v0 v1 v2 v3 v4 v5 o o'=>(qBc (o:=o') (qBc (o:=o) ((((((HKR.out.set 0 v0).set 1 v1).set 2 v2).set 3 v3).set 4 v4).set 5 v5))).cell 6;have f6:∀(v0 v1 v2 v3 v4 v5:Value) (o o':Obj),((((((((W.setCell ⟨N+1,0,none⟩ v0).setCell ⟨N+1,1,none⟩ v1).setCell ⟨N+1,2,none⟩ v2).setCell ⟨N+1,3,none⟩ v3).setCell ⟨N+1,4,none⟩ v4).setCell ⟨N+1,5,none⟩ v5).alloc o).alloc o').frozen? ⟨N+1,6,none⟩=false:=fun v0 v1 v2 v3 v4 v5 o o'=>(qBc (o:=o') (qBc (o:=o) ((((((HKR.out.set 0 v0).set 1 v1).set 2 v2).set 3 v3).set 4 v4).set 5 v5))).frozen 6;have hR:∀o o':Obj,Blk (((((((((W.setCell ⟨N+1,0,none⟩ (.slice (some ⟨N+2+1,0,none⟩) 1 1)).setCell ⟨N+1,1,none⟩ (.slice none 0 0)).setCell ⟨N+1,2,none⟩ (.slice none 0 0)).setCell ⟨N+1,3,none⟩ (.int .i64 q)).setCell ⟨N+1,4,none⟩ (.int .i64 0)).setCell ⟨N+1,5,none⟩ (.int .i64 0)).setCell ⟨N+1,6,none⟩ (.int .u64 0)).alloc o).alloc o') (N+1) 34 #[.slice (some ⟨N+2+1,0,none⟩) 1 1,.slice none 0 0,.slice none 0 0,.int .i64 q,.int .i64 0,.int .i64 0,.int .u64 0]:=fun o o'=>qBc (qBc (((((((HKR.out.set 0 (.slice (some ⟨N+2+1,0,none⟩) 1 1)).set 1 (.slice none 0 0)).set 2 (.slice none 0 0)).set 3 (.int .i64 q)).set 4 (.int .i64 0)).set 5 (.int .i64 0)).set 6 (.int .u64 0)));have g0:=fun o o'=>(hR o o').cell 0;have g1:=fun o o'=>(hR o o').cell 1;have g2:=fun o o'=>(hR o o').cell 2;have g3:=fun o o'=>(hR o o').cell 3;have g4:=fun o o'=>(hR o o').cell 4;have g5:=fun o o'=>(hR o o').cell 5;have g6:=fun o o'=>(hR o o').cell 6;have hs7:(((((((W.setCell ⟨N+1,0,none⟩ (.slice (some ⟨N+2+1,0,none⟩) 1 1)).setCell ⟨N+1,1,none⟩ (.slice none 0 0)).setCell ⟨N+1,2,none⟩ (.slice none 0 0)).setCell ⟨N+1,3,none⟩ (.int .i64 q)).setCell ⟨N+1,4,none⟩ (.int .i64 0)).setCell ⟨N+1,5,none⟩ (.int .i64 0)).setCell ⟨N+1,6,none⟩ (.int .u64 0)).heap.size=N+2:=by simp[World.setCell];omega
 have HB7:Hid (Below w.heap.size w (((((((W.setCell ⟨N+1,0,none⟩ (.slice (some ⟨N+2+1,0,none⟩) 1 1)).setCell ⟨N+1,1,none⟩ (.slice none 0 0)).setCell ⟨N+1,2,none⟩ (.slice none 0 0)).setCell ⟨N+1,3,none⟩ (.int .i64 q)).setCell ⟨N+1,4,none⟩ (.int .i64 0)).setCell ⟨N+1,5,none⟩ (.int .i64 0)).setCell ⟨N+1,6,none⟩ (.int .u64 0))):=by
  show Below _ _ _
  have hb:=HB0.out
  repeat(first|with_reducible exact hb|refine Below.setCell ?_ (by show w.heap.size≤N+1;omega) _)
 have HS7:=qBK hs7;clear hR hs7
 go_wp2_with fail
 refine bodyPost_ret (v:= .agg #[.slice (some ⟨N+2+1,0,none⟩) 1 1,.slice none 0 0,.slice none 0 0,.int .i64 q,.int .i64 0,.int .i64 0,.int .u64 0]) (by simp[results,Tryz.results23,go_sem,hsW,g0,g1,g2,g3,g4,g5,g6]) rfl ⟨[.slice (some ⟨N+2+1,0,none⟩) 1 1,.slice none 0 0,.slice none 0 0,.int .i64 q,.int .i64 0,.int .i64 0,.int .u64 0],rfl,?_,?_⟩
 · refine qKY (S1:=N+2) (qBc (qBl HS7.out)) (qBl ?_) hn HQ.out
   have:=HS7.out;simp only[World.size_alloc]
   omega
 · exact(HB7.out.alloc (by have:=HB7.out.size;omega) _).alloc (by have:=HB7.out.size;simp;omega) _
end Go.Proofs.YtgdbhanhmenmfaaGreat
