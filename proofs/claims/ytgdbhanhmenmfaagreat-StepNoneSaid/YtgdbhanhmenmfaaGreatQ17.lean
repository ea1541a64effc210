/-
Igt Igy Rtk Rm
-/
import Derived.Test.YtgdbhanhmenmfaaGreatQ02
import Derived.Test.YtgdbhanhmenmfaaGreatQ03
import Derived.Test.YtgdbhanhmenmfaaGreatQ05
import Derived.Test.YtgdbhanhmenmfaaGreatQ16
import Derived.LoopN
set_option linter.unusedSimpArgs false
set_option linter.unusedVariables false
set_option maxRecDepth 100000
set_option maxHeartbeats 2000000
namespace Go.Proofs.YtgdbhanhmenmfaaGreat
open Go.RowKit
variable {W:World}{arr g:Nat}{r:Int}{rb:Nat}{s:Option (List Nat)}{v0 v1 v2 v3 v4:Value}{w w':World}{x0 x1:Int}{xs:List Nat}
theorem zT {P:Prop} (h:P:=by simp[results,Tryz.results267,go_sem,insV,r10,r11,r12]):P:=h
theorem zx {P:Prop} (h:P:=by simp[results,Tryz.results267,go_sem,insV,r20,r21,r22]):P:=h
theorem qB8 (g o:Nat) (ys:List Nat) (w:World) (h:Good w g (o::ys)) (hb:∀x∈o::ys,x<256):
 Calls Tryz.prog 245 #[.pointer (some ⟨g,0,none⟩),.int .i64 1] w fun e w'=>e= .returned (.int .u64 (o:Nat))∧Good w' g ys∧Only g w w':=by
 refine(qGb g 1 (o::ys) w h hb (by rw[show wid 1=1 by decide];simp)).mono ?_;rw[show wid 1=1 by decide];rintro e w' ⟨rfl,hg,ho⟩;exact⟨by simp[le],hg,ho⟩
theorem qIF (g:Nat) (w:World) (h:Good w g []):
 Calls Tryz.prog 245 #[.pointer (some ⟨g,0,none⟩),.int .i64 1] w fun e w'=>e= .returned (.int .u64 0)∧Bad w' g∧Only g w w':=
 qEV g 1 [] w h qp
theorem qHO (g:Nat) (w:World) (h:Bad w g):
 Calls Tryz.prog 245 #[.pointer (some ⟨g,0,none⟩),.int .i64 1] w fun e w'=>e= .returned (.int .u64 0)∧Bad w' g∧Only g w w':=
 (qFg g 1 w h).mono fun e w' ⟨h1,h2⟩=>⟨h1,h.below h2 h.lt,qCL h2⟩
def Rdy (w:World) (g:Nat):Prop:=(∃xs,Good w g xs)∨Bad w g
def Gst (w:World) (g arr:Nat) (x0 x1:Int) (W:World):Prop:=
 Blk W w.heap.size 65 #[.int .i64 0,.int .i64 0,.int .i64 0]∧Blk W arr 297 #[.int .i64 x0,.int .i64 x1]∧Only g w W∧g<w.heap.size∧w.heap.size<arr
theorem Gst.only {W':World} (h:Gst w g arr x0 x1 W) (k:Only g W W'):Gst w g arr x0 x1 W':=
 ⟨qBp k h.1 (by have:=h.2.2.2.1;omega),qBp k h.2.1 (by have:=h.2.2.2;omega),qBb h.2.2.1 k,h.2.2.2⟩
theorem Gst.new {w1:World} (hr:Blk w1 w.heap.size 65 #[.int .i64 0,.int .i64 0,.int .i64 0]) (ho:Only g w w1) (hg:g<w.heap.size):Gst w g w1.heap.size 0 0 (w1.alloc (.cells #[.int .i64 0,.int .i64 0] 297)):=
 ⟨(qBX _ _ _ hr.lt).trans hr,heap_alloc_new w1 _,qBb ho (qBh _),hg,hr.lt⟩
theorem Gst.set0 (h:Gst w g arr x0 x1 W) (v:Int):Gst w g arr v x1 (W.setCell ⟨arr,0,none⟩ (.int .i64 v)):=
 ⟨qB7 h.1 _ (by have:=h.2.2.2;omega),by simpa using h.2.1.set 0 (.int .i64 v),qBg h.2.2.1 ((qBO _ _).setCell (p:=⟨arr,0,none⟩) (by have:=h.2.2.2;show w.heap.size≤arr;omega) _),h.2.2.2⟩
theorem Gst.set1 (h:Gst w g arr x0 x1 W) (v:Int):Gst w g arr x0 v (W.setCell ⟨arr,1,none⟩ (.int .i64 v)):=
 ⟨qB7 h.1 _ (by have:=h.2.2.2;omega),by simpa using h.2.1.set 1 (.int .i64 v),qBg h.2.2.1 ((qBO _ _).setCell (p:=⟨arr,1,none⟩) (by have:=h.2.2.2;show w.heap.size≤arr;omega) _),h.2.2.2⟩
theorem Gst.cells (h:Gst w g arr x0 x1 W):
 W.cell? ⟨arr,0,none⟩=some (.int .i64 x0)∧W.cell? ⟨arr,1,none⟩=some (.int .i64 x1)∧W.frozen? ⟨arr,0,none⟩=false∧W.frozen? ⟨arr,1,none⟩=false∧
 W.cell? ⟨w.heap.size,0,none⟩=some (.int .i64 0)∧W.cell? ⟨w.heap.size,1,none⟩=some (.int .i64 0)∧W.cell? ⟨w.heap.size,2,none⟩=some (.int .i64 0)∧
 W.frozen? ⟨w.heap.size,0,none⟩=false∧W.frozen? ⟨w.heap.size,1,none⟩=false∧W.frozen? ⟨w.heap.size,2,none⟩=false:=
 ⟨by simpa using h.2.1.cell 0,by simpa using h.2.1.cell 1,h.2.1.frozen 0,h.2.1.frozen 1,by simpa using h.1.cell 0,by simpa using h.1.cell 1,by simpa using h.1.cell 2,h.1.frozen 0,h.1.frozen 1,h.1.frozen 2⟩
theorem Gst.out (h:Gst w g arr x0 x1 W) (a b c:Value):Only g w (((W.setCell ⟨w.heap.size,0,none⟩ a).setCell ⟨w.heap.size,1,none⟩ b).setCell ⟨w.heap.size,2,none⟩ c):=
 qBg h.2.2.1 ((((qBO _ _).setCell (p:=⟨w.heap.size,0,none⟩) (qBL _) _).setCell (p:=⟨w.heap.size,1,none⟩) (qBL _) _).setCell (p:=⟨w.heap.size,2,none⟩) (qBL _) _)
theorem Good.three (h:Good W g xs) (hg:g<w.heap.size) (a b c:Value):Good (((W.setCell ⟨w.heap.size,0,none⟩ a).setCell ⟨w.heap.size,1,none⟩ b).setCell ⟨w.heap.size,2,none⟩ c) g xs:=
 h.keep fun i hi=>by rw[qBP,qBP,qBP]<;>(simp;omega)
theorem Good.one {i:Nat} (h:Good W g xs) (hg:g<arr) (a:Value):Good (W.setCell ⟨arr,i,none⟩ a) g xs:=
 h.keep fun k hk=>by rw[qBP];simp;omega
theorem Bad.one {i:Nat} (h:Bad W g) (hg:g<arr) (a:Value):Bad (W.setCell ⟨arr,i,none⟩ a) g:=
 qB7 h a (by omega)
theorem Bad.three (h:Bad W g) (hg:g<w.heap.size) (a b c:Value):Bad (((W.setCell ⟨w.heap.size,0,none⟩ a).setCell ⟨w.heap.size,1,none⟩ b).setCell ⟨w.heap.size,2,none⟩ c) g:=
 qB7 (qB7 (qB7 h a (by omega)) b (by omega)) c (by omega)
def insV (o x y:Int) (ok:Bool):Value:= .tuple #[.agg #[.int .i64 o,.int .i64 x,.int .i64 y],.bool ok]
theorem qN6 (g:Nat) (w:World) (h:Bad w g):
 Calls Tryz.prog 267 #[.pointer (some ⟨g,0,none⟩)] w fun e w'=>e= .returned (insV 0 0 0 false)∧Only g w w'∧Bad w' g:=by
 have hg:=h.lt;have HG:=qBK h;have AR:=qBK (fun w=>qDB 0 w);rw[show argN 0=1 by decide] at AR;clear h;refine qAg ?_;intro hgw
 go_enter Tryz.func267,Tryz.ntmps267
 go_wp2_with (first
  |(go_at_call 245
    refine(qHO g _ (HG.out.alloc _)).mono ?_;rintro e w1 ⟨rfl,hg1,ho1⟩;refine jF ?_;intro HG1 HR1 HO1;clear hg1 ho1)
  |(go_at_call 233
    refine(AR.out _).mono ?_;rintro e w2 ⟨rfl,rfl⟩))
 refine wp_loop_rounds 2 ?_;rw[rounds_succ];refine qBV fun W0 hW0=> ?_;refine jM ?_;intro HS0;have HG0':Hid (Bad W0 g):=by show Bad W0 g;rw[hW0];exact HG1.out.alloc _
 have hlt:w.heap.size<w1.heap.size:=HR1.out.lt;clear hW0;obtain⟨a00,a01,fa00,fa01,r00,r01,r02,fr00,fr01,fr02⟩:=Gst.cells HS0.out
 go_wp2_with (first
  |(go_at_call 185
    refine(qC3 g W0 HG0'.out).mono ?_;rintro e w9 ⟨rfl,rfl⟩;have HG0x:=HG0';have HS0x:=HS0))
 rw[rounds_succ];refine qBV fun W1 hW1=> ?_;refine ji ?_;intro HS1 HG1';clear hW1;obtain⟨a10,a11,fa10,fa11,r10,r11,r12,fr10,fr11,fr12⟩:=Gst.cells HS1.out
 go_wp2_with (first
  |(go_at_call 130
    refine(qBq g _ _ _ HG1'.out).mono ?_;rintro e w9 ⟨rfl,rfl⟩))
 refine bodyPost_ret (v:=insV 0 0 0 false) zT rfl ⟨rfl,HS1.out.out _ _ _,HG1'.out.three hg _ _ _⟩
theorem qJ8 (g:Nat) (w:World) (h:Good w g []):
 Calls Tryz.prog 267 #[.pointer (some ⟨g,0,none⟩)] w fun e w'=>e= .returned (insV 0 0 0 false)∧Only g w w'∧Rdy w' g:=by
 have hg:=h.lt;have HG:=qBK h;have AR:=qBK (fun w=>qDB 0 w);rw[show argN 0=1 by decide] at AR;clear h;refine qAg ?_;intro hgw
 go_enter Tryz.func267,Tryz.ntmps267
 go_wp2_with (first
  |(go_at_call 245
    refine(qIF g _ (HG.out.alloc _)).mono ?_;rintro e w1 ⟨rfl,hg1,ho1⟩;refine jF ?_;intro HG1 HR1 HO1;clear hg1 ho1)
  |(go_at_call 233
    refine(AR.out _).mono ?_;rintro e w2 ⟨rfl,rfl⟩))
 refine wp_loop_rounds 2 ?_;rw[rounds_succ];refine qBV fun W0 hW0=> ?_;refine jM ?_;intro HS0;have HG0':Hid (Bad W0 g):=by show Bad W0 g;rw[hW0];exact HG1.out.alloc _
 have hlt:w.heap.size<w1.heap.size:=HR1.out.lt;clear hW0;obtain⟨a00,a01,fa00,fa01,r00,r01,r02,fr00,fr01,fr02⟩:=Gst.cells HS0.out
 go_wp2_with (first
  |(go_at_call 185
    refine(qC3 g W0 HG0'.out).mono ?_;rintro e w9 ⟨rfl,rfl⟩;have HG0x:=HG0';have HS0x:=HS0))
 rw[rounds_succ];refine qBV fun W1 hW1=> ?_;refine ji ?_;intro HS1 HG1';clear hW1;obtain⟨a10,a11,fa10,fa11,r10,r11,r12,fr10,fr11,fr12⟩:=Gst.cells HS1.out
 go_wp2_with (first
  |(go_at_call 130
    refine(qBq g _ _ _ HG1'.out).mono ?_;rintro e w9 ⟨rfl,rfl⟩))
 refine bodyPost_ret (v:=insV 0 0 0 false) zT rfl ⟨rfl,HS1.out.out _ _ _,.inr (HG1'.out.three hg _ _ _)⟩
theorem qHZ (g o:Nat) (ys:List Nat) (w:World) (h:Good w g (o::ys)) (hb:∀x∈o::ys,x<256) (hl:ys.length≤140737488355328) (hn:argN o= -1):
 Calls Tryz.prog 267 #[.pointer (some ⟨g,0,none⟩)] w fun e w'=>e= .returned (insV 0 0 0 false)∧Only g w w'∧Rdy w' g:=by
 refine jH ?_;intro hg HG ho Hb HY AR;rw[hn] at AR;clear h hb hn;refine qAg ?_;intro hgw
 go_enter Tryz.func267,Tryz.ntmps267
 go_wp2_with (first
  |(go_at_call 245
    refine(qB8 g o ys _ (HG.out.alloc _) Hb.out).mono ?_;rintro e w1 ⟨rfl,hg1,ho1⟩;refine jF ?_;intro HG1 HR1 HO1;clear hg1 ho1)
  |(go_at_call 233
    refine(AR.out _).mono ?_;rintro e w2 ⟨rfl,rfl⟩))
 refine wp_loop_rounds 1 ?_;rw[rounds_succ];refine qBV fun W0 hW0=> ?_;refine jB ?_;intro HS0 HG0' hlt;clear hW0;obtain⟨a00,a01,fa00,fa01,r00,r01,r02,fr00,fr01,fr02⟩:=Gst.cells HS0.out
 go_wp2_with fail
 refine bodyPost_ret (v:=insV 0 0 0 false) (by simp[results,Tryz.results267,go_sem,insV,r00,r01,r02]) rfl ⟨rfl,HS0.out.out _ _ _,.inl ⟨_,HG0'.out.three hg _ _ _⟩⟩
theorem iget_0 (g o:Nat) (ys:List Nat) (w:World) (h:Good w g (o::ys)) (hb:∀x∈o::ys,x<256) (hl:ys.length≤140737488355328) (hn:argN o=0):
 Calls Tryz.prog 267 #[.pointer (some ⟨g,0,none⟩)] w fun e w'=>e= .returned (insV (o:Nat) 0 0 true)∧Good w' g ys∧Only g w w':=by
 refine jH ?_;intro hg HG ho Hb HY AR;rw[hn] at AR;clear h hb hn;refine qAg ?_;intro hgw
 go_enter Tryz.func267,Tryz.ntmps267
 go_wp2_with (first
  |(go_at_call 245
    refine(qB8 g o ys _ (HG.out.alloc _) Hb.out).mono ?_;rintro e w1 ⟨rfl,hg1,ho1⟩;refine jF ?_;intro HG1 HR1 HO1;clear hg1 ho1)
  |(go_at_call 233
    refine(AR.out _).mono ?_;rintro e w2 ⟨rfl,rfl⟩))
 refine wp_loop_rounds 1 ?_;rw[rounds_succ];refine qBV fun W0 hW0=> ?_;refine jB ?_;intro HS0 HG0' hlt;clear hW0;obtain⟨a00,a01,fa00,fa01,r00,r01,r02,fr00,fr01,fr02⟩:=Gst.cells HS0.out
 go_wp2_with (first
  |(go_at_call 130
    obtain⟨A2,c2,hk2,-⟩:=HG0'.out;refine(qBq g _ _ _ hk2).mono ?_;rintro e w9 ⟨rfl,rfl⟩;clear hk2))
 refine bodyPost_ret (v:=insV (o:Nat) 0 0 true) (by simp[results,Tryz.results267,go_sem,insV,r00,r01,r02]) rfl ⟨rfl,HG0'.out.three hg _ _ _,HS0.out.out _ _ _⟩
theorem qL3 (g o:Nat) (ys:List Nat) (w:World) (h:Good w g (o::ys)) (hb:∀x∈o::ys,x<256) (hl:ys.length≤140737488355328) (hn:argN o=1) (h1:¬∃v n,IsVar ys v n):
 Calls Tryz.prog 267 #[.pointer (some ⟨g,0,none⟩)] w fun e w'=>e= .returned (insV 0 0 0 false)∧Only g w w'∧Rdy w' g:=by
 refine jH ?_;intro hg HG ho Hb HY AR;rw[hn] at AR;clear h hb hn;have H1:=qBK h1;clear h1;refine qAg ?_;intro hgw
 go_enter Tryz.func267,Tryz.ntmps267
 go_wp2_with (first
  |(go_at_call 245
    refine(qB8 g o ys _ (HG.out.alloc _) Hb.out).mono ?_;rintro e w1 ⟨rfl,hg1,ho1⟩;refine jF ?_;intro HG1 HR1 HO1;clear hg1 ho1)
  |(go_at_call 233
    refine(AR.out _).mono ?_;rintro e w2 ⟨rfl,rfl⟩))
 refine wp_loop_rounds 2 ?_;rw[rounds_succ];refine qBV fun W0 hW0=> ?_;refine jB ?_;intro HS0 HG0' hlt;clear hW0;obtain⟨a00,a01,fa00,fa01,r00,r01,r02,fr00,fr01,fr02⟩:=Gst.cells HS0.out
 go_wp2_with (first
  |(go_at_call 185
    refine(qDE g ys W0 HG0'.out HY.out H1.out hl).mono ?_;rintro e V0 ⟨rfl,hgx,hox⟩;refine j4 ?_;intro HG0x HS0x b00 b01 fb00 fb01 s00 s01 s02 fs00 fs01 fs02;clear hgx hox))
 rw[rounds_succ];refine qBV fun W1 hW1=> ?_;refine ji ?_;intro HS1 HG1';clear hW1;obtain⟨a10,a11,fa10,fa11,r10,r11,r12,fr10,fr11,fr12⟩:=Gst.cells HS1.out
 go_wp2_with (first
  |(go_at_call 130
    refine(qBq g _ _ _ HG1'.out).mono ?_;rintro e w9 ⟨rfl,rfl⟩))
 refine bodyPost_ret (v:=insV 0 0 0 false) zT rfl ⟨rfl,HS1.out.out _ _ _,.inr (HG1'.out.three hg _ _ _)⟩
theorem qKA (g o:Nat) (ys:List Nat) (w:World) (v m:Nat) (h:Good w g (o::ys)) (hb:∀x∈o::ys,x<256) (hl:ys.length≤140737488355328) (hn:argN o=1) (h1:IsVar ys v m) (b1:255<v):
 Calls Tryz.prog 267 #[.pointer (some ⟨g,0,none⟩)] w fun e w'=>e= .returned (insV 0 0 0 false)∧Only g w w'∧Rdy w' g:=by
 refine jH ?_;intro hg HG ho Hb HY AR;rw[hn] at AR;clear h hb hn;have H1:=qBK h1;clear h1;refine qAg ?_;intro hgw
 go_enter Tryz.func267,Tryz.ntmps267
 go_wp2_with (first
  |(go_at_call 245
    refine(qB8 g o ys _ (HG.out.alloc _) Hb.out).mono ?_;rintro e w1 ⟨rfl,hg1,ho1⟩;refine jF ?_;intro HG1 HR1 HO1;clear hg1 ho1)
  |(go_at_call 233
    refine(AR.out _).mono ?_;rintro e w2 ⟨rfl,rfl⟩))
 refine wp_loop_rounds 2 ?_;rw[rounds_succ];refine qBV fun W0 hW0=> ?_;refine jB ?_;intro HS0 HG0' hlt;clear hW0;obtain⟨a00,a01,fa00,fa01,r00,r01,r02,fr00,fr01,fr02⟩:=Gst.cells HS0.out
 go_wp2_with (first
  |(go_at_call 185
    refine(qB1 g ys v m W0 HG0'.out HY.out H1.out hl).mono ?_;rintro e V0 ⟨rfl,hgx,hox⟩;refine j4 ?_;intro HG0x HS0x b00 b01 fb00 fb01 s00 s01 s02 fs00 fs01 fs02;clear hgx hox))
 refine bodyPost_ret (v:=insV 0 0 0 false) (by simp[results,Tryz.results267,go_sem,insV,s00,s01,s02]) rfl ⟨rfl,HS0x.out.out _ _ _,.inl ⟨_,HG0x.out.three hg _ _ _⟩⟩
theorem iget_1 (g o:Nat) (ys:List Nat) (w:World) (v m:Nat) (h:Good w g (o::ys)) (hb:∀x∈o::ys,x<256) (hl:ys.length≤140737488355328) (hn:argN o=1) (h1:IsVar ys v m) (b1:v≤255):
 Calls Tryz.prog 267 #[.pointer (some ⟨g,0,none⟩)] w fun e w'=>e= .returned (insV (o:Nat) (v:Nat) 0 true)∧Good w' g (ys.drop m)∧Only g w w':=by
 refine jH ?_;intro hg HG ho Hb HY AR;rw[hn] at AR;clear h hb hn;have H1:=qBK h1;clear h1;refine qAg ?_;intro hgw
 go_enter Tryz.func267,Tryz.ntmps267
 go_wp2_with (first
  |(go_at_call 245
    refine(qB8 g o ys _ (HG.out.alloc _) Hb.out).mono ?_;rintro e w1 ⟨rfl,hg1,ho1⟩;refine jF ?_;intro HG1 HR1 HO1;clear hg1 ho1)
  |(go_at_call 233
    refine(AR.out _).mono ?_;rintro e w2 ⟨rfl,rfl⟩))
 refine wp_loop_rounds 2 ?_;rw[rounds_succ];refine qBV fun W0 hW0=> ?_;refine jB ?_;intro HS0 HG0' hlt;clear hW0;obtain⟨a00,a01,fa00,fa01,r00,r01,r02,fr00,fr01,fr02⟩:=Gst.cells HS0.out
 go_wp2_with (first
  |(go_at_call 185
    refine(qB1 g ys v m W0 HG0'.out HY.out H1.out hl).mono ?_;rintro e V0 ⟨rfl,hgx,hox⟩;refine j4 ?_;intro HG0x HS0x b00 b01 fb00 fb01 s00 s01 s02 fs00 fs01 fs02;clear hgx hox))
 rw[rounds_succ];refine qBV fun W1 hW1=> ?_;refine ja ?_;intro HS1 HG1';clear hW1;obtain⟨a10,a11,fa10,fa11,r10,r11,r12,fr10,fr11,fr12⟩:=Gst.cells HS1.out
 go_wp2_with (first
  |(go_at_call 130
    obtain⟨A2,c2,hk2,-⟩:=HG1'.out;refine(qBq g _ _ _ hk2).mono ?_;rintro e w9 ⟨rfl,rfl⟩;clear hk2))
 refine bodyPost_ret (v:=insV (o:Nat) (v:Nat) 0 true) zT rfl ⟨rfl,HG1'.out.three hg _ _ _,HS1.out.out _ _ _⟩
theorem qL2 (g o:Nat) (ys:List Nat) (w:World) (h:Good w g (o::ys)) (hb:∀x∈o::ys,x<256) (hl:ys.length≤140737488355328) (hn:argN o=2) (h1:¬∃v n,IsVar ys v n):
 Calls Tryz.prog 267 #[.pointer (some ⟨g,0,none⟩)] w fun e w'=>e= .returned (insV 0 0 0 false)∧Only g w w'∧Rdy w' g:=by
 refine jH ?_;intro hg HG ho Hb HY AR;rw[hn] at AR;clear h hb hn;have H1:=qBK h1;clear h1;refine qAg ?_;intro hgw
 go_enter Tryz.func267,Tryz.ntmps267
 go_wp2_with (first
  |(go_at_call 245
    refine(qB8 g o ys _ (HG.out.alloc _) Hb.out).mono ?_;rintro e w1 ⟨rfl,hg1,ho1⟩;refine jF ?_;intro HG1 HR1 HO1;clear hg1 ho1)
  |(go_at_call 233
    refine(AR.out _).mono ?_;rintro e w2 ⟨rfl,rfl⟩))
 refine wp_loop_rounds 3 ?_;rw[rounds_succ];refine qBV fun W0 hW0=> ?_;refine jB ?_;intro HS0 HG0' hlt;clear hW0;obtain⟨a00,a01,fa00,fa01,r00,r01,r02,fr00,fr01,fr02⟩:=Gst.cells HS0.out
 go_wp2_with (first
  |(go_at_call 185
    refine(qDE g ys W0 HG0'.out HY.out H1.out hl).mono ?_;rintro e V0 ⟨rfl,hgx,hox⟩;refine j4 ?_;intro HG0x HS0x b00 b01 fb00 fb01 s00 s01 s02 fs00 fs01 fs02;clear hgx hox))
 rw[rounds_succ];refine qBV fun W1 hW1=> ?_;refine ji ?_;intro HS1 HG1';clear hW1;obtain⟨a10,a11,fa10,fa11,r10,r11,r12,fr10,fr11,fr12⟩:=Gst.cells HS1.out
 go_wp2_with (first
  |(go_at_call 185
    refine(qC3 g W1 HG1'.out).mono ?_;rintro e w9 ⟨rfl,rfl⟩;have HG1x:=HG1';have HS1x:=HS1))
 rw[rounds_succ];refine qBV fun W2 hW2=> ?_;have HS2:Hid (Gst w g w1.heap.size 0 0 W2):=by show Gst w g w1.heap.size 0 0 W2;rw[hW2];exact HS1x.out.set1 _
 have HG2':Hid (Bad W2 g):=by show Bad W2 g;rw[hW2];exact HG1x.out.one (by omega) _
 clear hW2;obtain⟨a20,a21,fa20,fa21,r20,r21,r22,fr20,fr21,fr22⟩:=Gst.cells HS2.out
 go_wp2_with (first
  |(go_at_call 130
    refine(qBq g _ _ _ HG2'.out).mono ?_;rintro e w9 ⟨rfl,rfl⟩))
 refine bodyPost_ret (v:=insV 0 0 0 false) zx rfl ⟨rfl,HS2.out.out _ _ _,.inr (HG2'.out.three hg _ _ _)⟩
theorem qJ9 (g o:Nat) (ys:List Nat) (w:World) (v m:Nat) (h:Good w g (o::ys)) (hb:∀x∈o::ys,x<256) (hl:ys.length≤140737488355328) (hn:argN o=2) (h1:IsVar ys v m) (b1:255<v):
 Calls Tryz.prog 267 #[.pointer (some ⟨g,0,none⟩)] w fun e w'=>e= .returned (insV 0 0 0 false)∧Only g w w'∧Rdy w' g:=by
 refine jH ?_;intro hg HG ho Hb HY AR;rw[hn] at AR;clear h hb hn;have H1:=qBK h1;clear h1;refine qAg ?_;intro hgw
 go_enter Tryz.func267,Tryz.ntmps267
 go_wp2_with (first
  |(go_at_call 245
    refine(qB8 g o ys _ (HG.out.alloc _) Hb.out).mono ?_;rintro e w1 ⟨rfl,hg1,ho1⟩;refine jF ?_;intro HG1 HR1 HO1;clear hg1 ho1)
  |(go_at_call 233
    refine(AR.out _).mono ?_;rintro e w2 ⟨rfl,rfl⟩))
 refine wp_loop_rounds 3 ?_;rw[rounds_succ];refine qBV fun W0 hW0=> ?_;refine jB ?_;intro HS0 HG0' hlt;clear hW0;obtain⟨a00,a01,fa00,fa01,r00,r01,r02,fr00,fr01,fr02⟩:=Gst.cells HS0.out
 go_wp2_with (first
  |(go_at_call 185
    refine(qB1 g ys v m W0 HG0'.out HY.out H1.out hl).mono ?_;rintro e V0 ⟨rfl,hgx,hox⟩;refine j4 ?_;intro HG0x HS0x b00 b01 fb00 fb01 s00 s01 s02 fs00 fs01 fs02;clear hgx hox))
 refine bodyPost_ret (v:=insV 0 0 0 false) (by simp[results,Tryz.results267,go_sem,insV,s00,s01,s02]) rfl ⟨rfl,HS0x.out.out _ _ _,.inl ⟨_,HG0x.out.three hg _ _ _⟩⟩
theorem qIs (g o:Nat) (ys:List Nat) (w:World) (v m:Nat) (h:Good w g (o::ys)) (hb:∀x∈o::ys,x<256) (hl:ys.length≤140737488355328) (hn:argN o=2) (h1:IsVar ys v m) (b1:v≤255) (h2:¬∃v n,IsVar (ys.drop m) v n):
 Calls Tryz.prog 267 #[.pointer (some ⟨g,0,none⟩)] w fun e w'=>e= .returned (insV 0 0 0 false)∧Only g w w'∧Rdy w' g:=by
 refine jH ?_;intro hg HG ho Hb HY AR;rw[hn] at AR;clear h hb hn;have H1:=qBK h1;clear h1;refine j7 ?_;intro HLd HYd H2;clear h2;refine qAg ?_;intro hgw
 go_enter Tryz.func267,Tryz.ntmps267
 go_wp2_with (first
  |(go_at_call 245
    refine(qB8 g o ys _ (HG.out.alloc _) Hb.out).mono ?_;rintro e w1 ⟨rfl,hg1,ho1⟩;refine jF ?_;intro HG1 HR1 HO1;clear hg1 ho1)
  |(go_at_call 233
    refine(AR.out _).mono ?_;rintro e w2 ⟨rfl,rfl⟩))
 refine wp_loop_rounds 3 ?_;rw[rounds_succ];refine qBV fun W0 hW0=> ?_;refine jB ?_;intro HS0 HG0' hlt;clear hW0;obtain⟨a00,a01,fa00,fa01,r00,r01,r02,fr00,fr01,fr02⟩:=Gst.cells HS0.out
 go_wp2_with (first
  |(go_at_call 185
    refine(qB1 g ys v m W0 HG0'.out HY.out H1.out hl).mono ?_;rintro e V0 ⟨rfl,hgx,hox⟩;refine j4 ?_;intro HG0x HS0x b00 b01 fb00 fb01 s00 s01 s02 fs00 fs01 fs02;clear hgx hox))
 rw[rounds_succ];refine qBV fun W1 hW1=> ?_;refine ja ?_;intro HS1 HG1';clear hW1;obtain⟨a10,a11,fa10,fa11,r10,r11,r12,fr10,fr11,fr12⟩:=Gst.cells HS1.out
 go_wp2_with (first
  |(go_at_call 185
    refine(qDE g (ys.drop m) W1 HG1'.out HYd.out H2.out HLd.out).mono ?_;rintro e V1 ⟨rfl,hgx,hox⟩;have HG1x:=qBK hgx;have HS1x:=qBK (HS1.out.only hox);obtain⟨b10,b11,fb10,fb11,s10,s11,s12,fs10,fs11,fs12⟩:=Gst.cells HS1x.out;clear hgx hox))
 rw[rounds_succ];refine qBV fun W2 hW2=> ?_;have HS2:Hid (Gst w g w1.heap.size (v:Nat) 0 W2):=by show Gst w g w1.heap.size (v:Nat) 0 W2;rw[hW2];exact HS1x.out.set1 _
 have HG2':Hid (Bad W2 g):=by show Bad W2 g;rw[hW2];exact HG1x.out.one (by omega) _
 clear hW2;obtain⟨a20,a21,fa20,fa21,r20,r21,r22,fr20,fr21,fr22⟩:=Gst.cells HS2.out
 go_wp2_with (first
  |(go_at_call 130
    refine(qBq g _ _ _ HG2'.out).mono ?_;rintro e w9 ⟨rfl,rfl⟩))
 refine bodyPost_ret (v:=insV 0 0 0 false) zx rfl ⟨rfl,HS2.out.out _ _ _,.inr (HG2'.out.three hg _ _ _)⟩
theorem qHa (g o:Nat) (ys:List Nat) (w:World) (v m:Nat) (u l:Nat) (h:Good w g (o::ys)) (hb:∀x∈o::ys,x<256) (hl:ys.length≤140737488355328) (hn:argN o=2) (h1:IsVar ys v m) (b1:v≤255) (h2:IsVar (ys.drop m) u l) (b2:255<u):
 Calls Tryz.prog 267 #[.pointer (some ⟨g,0,none⟩)] w fun e w'=>e= .returned (insV 0 0 0 false)∧Only g w w'∧Rdy w' g:=by
 refine jH ?_;intro hg HG ho Hb HY AR;rw[hn] at AR;clear h hb hn;have H1:=qBK h1;clear h1;refine j7 ?_;intro HLd HYd H2;clear h2;refine qAg ?_;intro hgw
 go_enter Tryz.func267,Tryz.ntmps267
 go_wp2_with (first
  |(go_at_call 245
    refine(qB8 g o ys _ (HG.out.alloc _) Hb.out).mono ?_;rintro e w1 ⟨rfl,hg1,ho1⟩;refine jF ?_;intro HG1 HR1 HO1;clear hg1 ho1)
  |(go_at_call 233
    refine(AR.out _).mono ?_;rintro e w2 ⟨rfl,rfl⟩))
 refine wp_loop_rounds 3 ?_;rw[rounds_succ];refine qBV fun W0 hW0=> ?_;refine jB ?_;intro HS0 HG0' hlt;clear hW0;obtain⟨a00,a01,fa00,fa01,r00,r01,r02,fr00,fr01,fr02⟩:=Gst.cells HS0.out
 go_wp2_with (first
  |(go_at_call 185
    refine(qB1 g ys v m W0 HG0'.out HY.out H1.out hl).mono ?_;rintro e V0 ⟨rfl,hgx,hox⟩;refine j4 ?_;intro HG0x HS0x b00 b01 fb00 fb01 s00 s01 s02 fs00 fs01 fs02;clear hgx hox))
 rw[rounds_succ];refine qBV fun W1 hW1=> ?_;refine ja ?_;intro HS1 HG1';clear hW1;obtain⟨a10,a11,fa10,fa11,r10,r11,r12,fr10,fr11,fr12⟩:=Gst.cells HS1.out
 go_wp2_with (first
  |(go_at_call 185
    refine(qB1 g (ys.drop m) u l W1 HG1'.out HYd.out H2.out HLd.out).mono ?_;rintro e V1 ⟨rfl,hgx,hox⟩;have HG1x:=qBK hgx;have HS1x:=qBK (HS1.out.only hox);obtain⟨b10,b11,fb10,fb11,s10,s11,s12,fs10,fs11,fs12⟩:=Gst.cells HS1x.out;clear hgx hox))
 refine bodyPost_ret (v:=insV 0 0 0 false) (by simp[results,Tryz.results267,go_sem,insV,s10,s11,s12]) rfl ⟨rfl,HS1x.out.out _ _ _,.inl ⟨_,HG1x.out.three hg _ _ _⟩⟩
theorem iget_2 (g o:Nat) (ys:List Nat) (w:World) (v m:Nat) (u l:Nat) (h:Good w g (o::ys)) (hb:∀x∈o::ys,x<256) (hl:ys.length≤140737488355328) (hn:argN o=2) (h1:IsVar ys v m) (b1:v≤255) (h2:IsVar (ys.drop m) u l) (b2:u≤255):
 Calls Tryz.prog 267 #[.pointer (some ⟨g,0,none⟩)] w fun e w'=>e= .returned (insV (o:Nat) (v:Nat) (u:Nat) true)∧Good w' g ((ys.drop m).drop l)∧Only g w w':=by
 refine jH ?_;intro hg HG ho Hb HY AR;rw[hn] at AR;clear h hb hn;have H1:=qBK h1;clear h1;refine j7 ?_;intro HLd HYd H2;clear h2;refine qAg ?_;intro hgw
 go_enter Tryz.func267,Tryz.ntmps267
 go_wp2_with (first
  |(go_at_call 245
    refine(qB8 g o ys _ (HG.out.alloc _) Hb.out).mono ?_;rintro e w1 ⟨rfl,hg1,ho1⟩;refine jF ?_;intro HG1 HR1 HO1;clear hg1 ho1)
  |(go_at_call 233
    refine(AR.out _).mono ?_;rintro e w2 ⟨rfl,rfl⟩))
 refine wp_loop_rounds 3 ?_;rw[rounds_succ];refine qBV fun W0 hW0=> ?_;refine jB ?_;intro HS0 HG0' hlt;clear hW0;obtain⟨a00,a01,fa00,fa01,r00,r01,r02,fr00,fr01,fr02⟩:=Gst.cells HS0.out
 go_wp2_with (first
  |(go_at_call 185
    refine(qB1 g ys v m W0 HG0'.out HY.out H1.out hl).mono ?_;rintro e V0 ⟨rfl,hgx,hox⟩;refine j4 ?_;intro HG0x HS0x b00 b01 fb00 fb01 s00 s01 s02 fs00 fs01 fs02;clear hgx hox))
 rw[rounds_succ];refine qBV fun W1 hW1=> ?_;refine ja ?_;intro HS1 HG1';clear hW1;obtain⟨a10,a11,fa10,fa11,r10,r11,r12,fr10,fr11,fr12⟩:=Gst.cells HS1.out
 go_wp2_with (first
  |(go_at_call 185
    refine(qB1 g (ys.drop m) u l W1 HG1'.out HYd.out H2.out HLd.out).mono ?_;rintro e V1 ⟨rfl,hgx,hox⟩;have HG1x:=qBK hgx;have HS1x:=qBK (HS1.out.only hox);obtain⟨b10,b11,fb10,fb11,s10,s11,s12,fs10,fs11,fs12⟩:=Gst.cells HS1x.out;clear hgx hox))
 rw[rounds_succ];refine qBV fun W2 hW2=> ?_;have HS2:Hid (Gst w g w1.heap.size (v:Nat) (u:Nat) W2):=by show Gst w g w1.heap.size (v:Nat) (u:Nat) W2;rw[hW2];exact HS1x.out.set1 _
 have HG2':Hid (Good W2 g ((ys.drop m).drop l)):=by show Good W2 g ((ys.drop m).drop l);rw[hW2];exact HG1x.out.one (by omega) _
 clear hW2;obtain⟨a20,a21,fa20,fa21,r20,r21,r22,fr20,fr21,fr22⟩:=Gst.cells HS2.out
 go_wp2_with (first
  |(go_at_call 130
    obtain⟨A2,c2,hk2,-⟩:=HG2'.out;refine(qBq g _ _ _ hk2).mono ?_;rintro e w9 ⟨rfl,rfl⟩;clear hk2))
 refine bodyPost_ret (v:=insV (o:Nat) (v:Nat) (u:Nat) true) zx rfl ⟨rfl,HG2'.out.three hg _ _ _,HS2.out.out _ _ _⟩
theorem qN4 (g o x y:Nat) (rest:List Nat) (w:World) (hgd:goodI o x y=true) (h:Good w g (insB o x y++rest)) (hb:∀z∈rest,z<256) (hl:rest.length≤1000000):
 Calls Tryz.prog 267 #[.pointer (some ⟨g,0,none⟩)] w fun e w'=>e= .returned (insV (o:Nat) (x:Nat) (y:Nat) true)∧Good w' g rest∧Only g w w':=by
 have hall:∀z∈insB o x y++rest,z<256:=by
  intro z hz;rcases List.mem_append.1 hz with h|h
  · exact qFw _ _ _ z h
  · exact hb z h
 have hlen:=qIr o x y;have hlx:(insB o x y++rest).length≤1000005:=by simp;omega
 obtain⟨o',x',y',eo,ex,ey,ho,hx,hy,h0,hx1,hy1⟩:=qBm hgd;obtain rfl:o=o':=by omega
 obtain rfl:x=x':=by omega
 obtain rfl:y=y':=by omega
 rw[qCK hgd,List.cons_append] at h hall hlx;have h64:x<B64∧y<B64:=by unfold B64;omega
 rcases qDf o with hn|hn|hn|hn
 · omega
 · obtain rfl:x=0:=hx1 (by omega)
   obtain rfl:y=0:=hy1 (by omega);rw[hn] at h hall hlx;simp only[bodyB,show ¬((0:Int)<0) by omega,show ¬((1:Int)<0) by omega,if_false,List.nil_append] at h hall hlx;exact iget_0 g o rest w h hall (by omega) hn
 · obtain rfl:y=0:=hy1 (by omega)
   rw[hn] at h hall hlx;simp only[bodyB,show((0:Int)<1) by omega,show ¬((1:Int)<1) by omega,if_false,if_true,List.append_nil] at h hall hlx;have:=iget_1 g o (vb x++rest) w x (vb x).length h hall (by simp at hlx ⊢;omega) hn (qCB x h64.1 rest) hx;rw[List.drop_left] at this;exact this
 · rw[hn] at h hall hlx
   simp only[bodyB,show((0:Int)<2) by omega,show((1:Int)<2) by omega,if_true,List.append_assoc] at h hall hlx;have:=iget_2 g o (vb x++(vb y++rest)) w x (vb x).length y (vb y).length h hall (by simp at hlx ⊢;omega) hn (qCB x h64.1 _) hx (by rw[List.drop_left];exact qCB y h64.2 rest) hy;rw[List.drop_left,List.drop_left] at this;exact this
theorem qL1 (g:Nat) (xs:List Nat) (w:World) (h:Good w g xs) (hb:∀z∈xs,z<256) (hl:xs.length≤1000000) (hno:¬HasI xs):
 Calls Tryz.prog 267 #[.pointer (some ⟨g,0,none⟩)] w fun e w'=>e= .returned (insV 0 0 0 false)∧Only g w w'∧Rdy w' g:=by
 cases xs with
 |nil=>exact qJ8 g w h
 |cons o ys=>
  have hl':ys.length≤140737488355328:=by simp at hl;omega
  have hd:∀m,∀z∈ys.drop m,z<256:=fun m z hz=>hb z (by simp[List.mem_of_mem_drop hz]);have yes:∀x y:Nat,∀rest:List Nat,x≤255→y≤255→0≤argN o→(¬0<argN o→x=0)→(¬1<argN o→y=0)→ys≠bodyB (argN o) x y++rest:=by
   intro x y rest hx hy h0 h1 h2 e;have hg:=qOI h0 hx hy h1 h2;exact hno ⟨o,x,y,rest,hg,by rw[qCK hg,List.cons_append,←e]⟩
  rcases qDf o with hn|hn|hn|hn
  · exact qHZ g o ys w h hb hl' hn
  · exact absurd (by rw[hn];simp[bodyB]) (yes 0 0 ys (by omega) (by omega) (by omega) (fun _=>rfl) (fun _=>rfl))
  · by_cases hv:∃v n,IsVar ys v n
    · obtain⟨v,m,hv⟩:=hv
      by_cases hb2:v≤255
      · exact absurd (by rw[hn];simpa[bodyB] using qCM hv) (yes v 0 (ys.drop m) hb2 (by omega) (by omega) (fun h=>by omega) (fun _=>rfl))
      · exact qKA g o ys w v m h hb hl' hn hv (by omega)
    · exact qL3 g o ys w h hb hl' hn hv
  · by_cases hv:∃v n,IsVar ys v n
    · obtain⟨v,m,hv⟩:=hv
      by_cases hb2:v≤255
      · by_cases hu:∃v n,IsVar (ys.drop m) v n
        · obtain⟨u,l,hu⟩:=hu
          by_cases hb3:u≤255
          · refine absurd ?_ (yes v u ((ys.drop m).drop l) hb2 hb3 (by omega) (fun h=>by omega) (fun h=>by omega))
            rw[hn];have e1:=qCM hv;have e2:=qCM hu;simp only[bodyB,show((0:Int)<2) by omega,show((1:Int)<2) by omega,if_true,List.append_assoc];rw[←e2];exact e1
          · exact qHa g o ys w v m u l h hb hl' hn hv hb2 hu (by omega)
        · exact qIs g o ys w v m h hb hl' hn hv hb2 hu
      · exact qJ9 g o ys w v m h hb hl' hn hv (by omega)
    · exact qL2 g o ys w h hb hl' hn hv
theorem qH3 (g:Nat) (n:Int) (w:World) (h:Bad w g):Calls Tryz.prog 239 #[.pointer (some ⟨g,0,none⟩),.int .i64 n] w fun e w'=>e= .returned (.slice none 0 0)∧w=w':=by
 have hc:=qBK (qLB g n w h);clear h
 go_enter Tryz.func239,Tryz.ntmps239
 go_wp2_with (first|(go_at_call 238;refine hc.out.mono ?_;rintro e w' ⟨rfl,rfl⟩)|(go_at_call 198;refine(qG1 _).mono ?_;rintro e w' ⟨rfl,rfl⟩))
 go_ret;exact⟨rfl,rfl⟩
theorem qFW (g:Nat) (n:Int) (xs:List Nat) (w:World) (h:Good w g xs) (hn:n<0∨(xs.length:Int)<n):
 Calls Tryz.prog 239 #[.pointer (some ⟨g,0,none⟩),.int .i64 n] w fun e w'=>e= .returned (.slice none 0 0)∧Bad w' g∧Only g w w':=by
 have hc:=qBK (qGw g n xs w h hn);clear h hn
 go_enter Tryz.func239,Tryz.ntmps239
 go_wp2_with (first|(go_at_call 238;refine hc.out.mono ?_;rintro e w' ⟨rfl,hB,hO⟩)|(go_at_call 198;refine(qG1 _).mono ?_;rintro e w' ⟨rfl,rfl⟩))
 go_ret;exact⟨rfl,hB,hO⟩
theorem qKg (g:Nat) (k:Nat) (xs:List Nat) (w:World) (h:Good w g xs) (hk:k≤xs.length) (hn:k≤140737488355328):
 Calls Tryz.prog 239 #[.pointer (some ⟨g,0,none⟩),.int .i64 (k:Nat)] w fun e w'=>∃v,e= .returned v∧w'.ownsRow w.heap.size 5 1 v k (Bs (xs.take k))∧Good w' g (xs.drop k)∧Only g w w':=by
 have hc:=qBK (qKO g k xs w h hk);have hg:=h.lt;have hl:(xs.take k).length=k:=by simp;omega
 have HL:=qBK hl;clear h hl
 go_enter Tryz.func239,Tryz.ntmps239
 go_wp2_with (first|(go_at_call 238;refine hc.out.mono ?_;rintro e w1 ⟨A,c,rfl,hB,hkc,_,hG,hO⟩;have HB:=qBK hB;have HG:=qBK hG;have HO:=qBK hO;clear hB hG hO)
                   |(go_at_call 198
                     refine(qG3 A k c (xs.take k) w1 HL.out (HB.out.wide fun b hb=>by have:=HO.out.size;omega) hn).mono ?_;rintro e w2 ⟨v,rfl,hown,hbel⟩))
 go_ret;have hsz:=HO.out.size;have hown':w2.ownsRow w.heap.size 5 1 v k (Bs (xs.take k)):=by
  refine⟨hown.1,?_⟩;rcases hown.2 with h|⟨g',cap,cur,e,hb,rest⟩
  · exact .inl h
  · exact .inr ⟨g',cap,cur,e,qBZ hsz hb,rest⟩
 exact⟨v,rfl,hown',HG.out.below hbel HG.out.lt,qBb HO.out (qCL hbel)⟩
def Mrd (w:World) (rb g:Nat) (v0 v1 v2 v3 v4:Value) (r:Int):Prop:=rb≠g∧Blk w rb 210 #[.pointer (some ⟨g,0,none⟩),v0,v1,v2,v3,v4,.int .i64 r]
theorem Mrd.only (h:Mrd w rb g v0 v1 v2 v3 v4 r) (ho:Only g w w'):Mrd w' rb g v0 v1 v2 v3 v4 r:=⟨h.1,qBp ho h.2 h.1⟩
theorem Mrd.below (h:Mrd w rb g v0 v1 v2 v3 v4 r) (hb:Below w.heap.size w w'):Mrd w' rb g v0 v1 v2 v3 v4 r:=⟨h.1,(hb.block rb h.2.lt).trans h.2⟩
theorem Mrd.ptr (h:Mrd w rb g v0 v1 v2 v3 v4 r):w.cell? ⟨rb,0,none⟩=some (.pointer (some ⟨g,0,none⟩)):=by simpa using h.2.cell 0
theorem Mrd.recs (h:Mrd w rb g v0 v1 v2 v3 v4 r):w.cell? ⟨rb,6,none⟩=some (.int .i64 r):=by simpa using h.2.cell 6
def St (w:World) (g:Nat):Option (List Nat)→Prop
 |some xs=>Good w g xs∧(∀x∈xs,x<256)∧xs.length≤1000000
 |none=>Bad w g
theorem St.lt (h:St w g s):g<w.heap.size:=by
 cases s with
 |none=>exact Bad.lt h
 |some xs=>exact h.1.lt
theorem St.rest {rest ys:List Nat} (h:St w g (some xs)) (e:xs=ys++rest) (hg:Good w' g rest):St w' g (some rest):=by
 subst e;refine⟨hg,fun x hx=>h.2.1 x zN,?_⟩;have:=h.2.2;simp at this
 omega
theorem St.below (h:St w g s) (hb:Below w.heap.size w w'):St w' g s:=by
 have hl:=h.lt
 cases s with
 |none=>exact Bad.below h hb hl
 |some xs=>exact⟨h.1.below hb hl,h.2⟩
theorem St.low {B:Nat} (h:St w g s) (hb:Below B w w') (hl:g<B):St w' g s:=by
 cases s with
 |none=>exact Bad.below h hb hl
 |some xs=>exact⟨h.1.below hb hl,h.2⟩
theorem Rdy.low {B:Nat} (h:Rdy w g) (hb:Below B w w') (hl:g<B):Rdy w' g:=by
 rcases h with⟨xs,h⟩|h
 · exact .inl ⟨xs,h.below hb hl⟩
 · exact .inr (h.below hb hl)
theorem qJj (rb g:Nat) (v0 v1 v2 v3 v4:Value) (r:Int) (w:World) (h:Mrd w rb g v0 v1 v2 v3 v4 r) (hr:Rdy w g):
 Calls Tryz.prog 240 #[.pointer (some ⟨rb,0,none⟩)] w fun e w'=>e= .returned (.tuple #[])∧Bad w' g∧Only g w w':=by
 have hp:=h.ptr;have HT:Hid (Calls Tryz.prog 239 #[.pointer (some ⟨g,0,none⟩),.int .i64 (-1)] w fun e w'=>e= .returned (.slice none 0 0)∧Bad w' g∧Only g w w'):=by
  rcases hr with⟨xs,hg⟩|hb
  · exact qFW g (-1) xs w hg (.inl (by omega))
  · exact(qH3 g (-1) w hb).mono fun e w' ⟨h1,h2⟩=>by subst h2;exact⟨h1,hb,qBv _ _⟩
 clear h hr
 go_enter Tryz.func240,Tryz.ntmps240
 go_wp2_with (first
  |(go_at_call 239
    refine HT.out.mono ?_;rintro e w1 ⟨rfl,hb1,ho1⟩))
 go_end0
 exact⟨rfl,hb1,ho1⟩
def Counts (lo hi g:Nat) (s:Option (List Nat)) (w:World) (e:Ending) (w':World):Prop:=
 Only g w w'∧∃v:Nat,e= .returned (.int .i64 (v:Int))∧v≤hi∧((lo≤v∧∃xs rest,s=some xs∧xs=vb v++rest∧St w' g (some rest))∨(v=0∧St w' g none∧∀xs,s=some xs→¬∃v rest,lo≤v∧v≤hi∧xs=vb v++rest))
theorem no_vb (hn:¬∃v n,IsVar xs v n) (lo hi:Nat) (hhi:hi≤1000):¬∃v rest,lo≤v∧v≤hi∧xs=vb v++rest:=by
 rintro⟨v,rest,_,h2,rfl⟩;exact hn ⟨v,_,qCB v qj rest⟩
theorem not_vb {v n lo hi:Nat} (hv:IsVar xs v n) (hhi:hi≤1000) (h:¬(lo≤v∧v≤hi)):¬∃v rest,lo≤v∧v≤hi∧xs=vb v++rest:=by
 rintro⟨u,rest,h1,h2,rfl⟩;obtain⟨rfl,_⟩:=qCF hv (qCB u qj rest);exact h ⟨h1,h2⟩
theorem qC1 (rb g:Nat) (v0 v1 v2 v3 v4:Value) (r:Int) (lo hi:Nat) (s:Option (List Nat)) (w:World) (h:Mrd w rb g v0 v1 v2 v3 v4 r) (hs:St w g s) (hlo:lo≤1) (hhi:hi≤1000):
 Calls Tryz.prog 187 #[.pointer (some ⟨rb,0,none⟩),.int .i64 (lo:Int),.int .i64 (hi:Int)] w (Counts lo hi g s w):=by
 have hp:=h.ptr;have HM:=qBK h;refine jr ?_;intro HR;have HS:=qBK hs;clear h
 by_cases hyes:∃xs v n,s=some xs∧IsVar xs v n
 · obtain⟨xs,v,n,rfl,hv⟩:=hyes
   have HV:Hid (Calls Tryz.prog 185 #[.pointer (some ⟨g,0,none⟩)] w fun e w'=>e= .returned (.int .u64 (v:Nat))∧Good w' g (xs.drop n)∧Only g w w'):=qB1 g xs v n w hs.1 hs.2.1 hv (by have:=hs.2.2;omega);have HI:=qBK hv
   by_cases hin:lo≤v∧v≤hi
   · obtain⟨h1,h2⟩:=hin
     have h3:¬v<lo:=by omega
     have h4:¬hi<v:=by omega
     clear hs hv
     go_enter Tryz.func187,Tryz.ntmps187
     go_wp2_with (first
      |(go_at_call 185
        refine HV.out.mono ?_;rintro e w1 ⟨rfl,hg1,ho1⟩;have HG1:=qBK hg1;have HO1:=qBK ho1;clear hg1 ho1))
     go_ret;exact⟨HO1.out,v,rfl,h2,.inl ⟨h1,xs,_,rfl,qCM HI.out,HS.out.rest (qCM HI.out) HG1.out⟩⟩
   · have HIN:=qBK hin
     have hcase:v<lo∨(¬v<lo∧hi<v):=by omega
     clear hs hv hin;rcases hcase with h3|⟨h3,h4⟩
     all_goals
      go_enter Tryz.func187,Tryz.ntmps187
      go_wp2_with (first
       |(go_at_call 185
         refine HV.out.mono ?_;rintro e w1 ⟨rfl,hg1,ho1⟩;have HG1:=qBK hg1;have HO1:=qBK ho1;clear hg1 ho1)
       |(go_at_call 240
         refine(HR.out _ HO1.out (.inl ⟨_,HG1.out⟩)).mono ?_;rintro e w2 ⟨rfl,hb2,ho2⟩))
      go_ret;exact⟨qBb HO1.out ho2,0,rfl,by omega,.inr ⟨rfl,hb2,fun xs' e=>by injection e with e;subst e;exact not_vb HI.out hhi HIN.out⟩⟩
 · have HV:Hid (Calls Tryz.prog 185 #[.pointer (some ⟨g,0,none⟩)] w fun e w'=>e= .returned (.int .u64 0)∧Bad w' g∧Only g w w'):=by
    cases s with
    |none=>exact(qC3 g w hs).mono fun e w' ⟨h1,h2⟩=>by subst h2;exact⟨h1,hs,qBv _ _⟩
    |some xs=>exact qDE g xs w hs.1 hs.2.1 (fun⟨v,n,hv⟩=>hyes ⟨xs,v,n,rfl,hv⟩) (by have:=hs.2.2;omega)
   have HNO:Hid (∀xs,s=some xs→¬∃v rest,lo≤v∧v≤hi∧xs=vb v++rest):=fun xs e=>no_vb (fun⟨v,n,hv⟩=>hyes ⟨xs,v,n,e,hv⟩) lo hi hhi;clear hs hyes
   by_cases h0:0<lo
   · go_enter Tryz.func187,Tryz.ntmps187
     go_wp2_with (first
      |(go_at_call 185
        refine HV.out.mono ?_;rintro e w1 ⟨rfl,hg1,ho1⟩;have HG1:=qBK hg1;have HO1:=qBK ho1;clear hg1 ho1)
      |(go_at_call 240
        refine(HR.out _ HO1.out (.inr HG1.out)).mono ?_;rintro e w2 ⟨rfl,hb2,ho2⟩))
     go_ret;exact⟨qBb HO1.out ho2,0,rfl,by omega,.inr ⟨rfl,hb2,HNO.out⟩⟩
   · obtain rfl:lo=0:=by omega
     go_enter Tryz.func187,Tryz.ntmps187
     go_wp2_with (first
      |(go_at_call 185
        refine HV.out.mono ?_;rintro e w1 ⟨rfl,hg1,ho1⟩;have HG1:=qBK hg1;have HO1:=qBK ho1;clear hg1 ho1))
     go_ret;exact⟨HO1.out,0,rfl,by omega,.inr ⟨rfl,HG1.out,HNO.out⟩⟩
def Reads {α:Type} (L:Lay α) (V:List Value→Value) (f:α→List Nat) (gd:α→Prop) (g:Nat) (s:Option (List Nat)) (w:World) (e:Ending) (w':World):Prop:=
 Only g w w'∧∃cs x,e= .returned (V cs)∧L.R (fun b=>w.heap.size≤b∧b<w'.heap.size) w' cs x∧
  ((gd x∧∃xs rest,s=some xs∧xs=f x++rest∧St w' g (some rest))∨(St w' g none∧∀xs,s=some xs→¬Has f gd xs))
end Go.Proofs.YtgdbhanhmenmfaaGreat
