/-
Sa7
-/
import Derived.Test.YtconajaecpgjgaaGreatT06
import Derived.Test.YtconajaecpgjgaaGreatT09
import Derived.Test.YtconajaecpgjgaaGreatT38
set_option linter.unusedSimpArgs false
set_option linter.unusedVariables false
set_option maxRecDepth 100000
set_option maxHeartbeats 4000000
namespace Go.Proofs.YtconajaecpgjgaaGreat
open Go.RowKit
theorem qHD (cs:List Value) (x:Mod) (w:World) (h:modL.R (·<w.heap.size) w cs x) (hz:Small x):Calls Tryz.prog 9 #[vAgg cs] w (Tells (mainB x) w):=by
 have TE:Hid (∀w1,Below w.heap.size w w1→Calls Tryz.prog 21 #[vAgg cs] w1 (Errs (checkN x) w1)):=fun w1 hb=>qGQ cs x w1 (qBQ h hb) hz
 obtain⟨_,_,_,_,_,rfl,⟨A0,d0,e0,-⟩,⟨A1,d1,e1,l1,m1,s1⟩,⟨A2,d2,e2,-⟩,⟨A3,d3,e3,-⟩,⟨A4,d4,e4,-⟩⟩:=h
 simp only[List.cons.injEq,and_true] at e0 e1 e2 e3 e4
 subst e0 e1 e2 e3 e4
 obtain⟨n1,h1⟩:∃n,x.funcs.length=n:=⟨_,rfl⟩
 rw[h1] at TE⊢
 generalize x.recs.length=n0 at*
 generalize x.imps.length=n2 at*
 generalize x.ints.length=n3 at*
 generalize x.texts.length=n4 at*
 have TE2:Hid (∀w1,Below w.heap.size w w1→Calls Tryz.prog 21 #[.agg #[.slice A0 n0 d0,.slice A1 n1 d1,.slice A2 n2 d2,.slice A3 n3 d3,.slice A4 n4 d4]] w1 (Errs (checkN x) w1)):=TE.out
 clear TE hz
 show Calls Tryz.prog 9 #[.agg #[.slice A0 n0 d0,.slice A1 n1 d1,.slice A2 n2 d2,.slice A3 n3 d3,.slice A4 n4 d4]] w (Tells (mainB x) w)
 have HB0:Hid (∀o:Obj,Below w.heap.size w (w.alloc o)):=fun o=>(qAe _ _).alloc (qAf _) _
 have HC0:Hid (C5 w.heap.size (.slice A0 n0 d0) (.slice A1 n1 d1) (.slice A2 n2 d2) (.slice A3 n3 d3) (.slice A4 n4 d4) (w.alloc (.cells #[.slice A0 n0 d0,.slice A1 n1 d1,.slice A2 n2 d2,.slice A3 n3 d3,.slice A4 n4 d4] 28))):=by show C5 _ _ _ _ _ _ _;simp[C5,go_sem]
 by_cases hc:checkN x=0
 rotate_left
 · have HN:=qAZ (qCO hc)
   have b:(checkN x==0)=false:=by simpa using hc
   generalize mainB x=mb at*
   generalize checkN x=cn at*
   clear hc s1 h1
   go_enter Tryz.func9,Tryz.ntmps9
   go_wp2_with (first
    |(go_at_call 21
      refine(TE2.out _ (HB0.out _)).mono ?_
      rintro e w1 ⟨rfl,hb1⟩
      have HB1:=qAZ ((HB0.out _).trans (hb1.mono (by simp)))
      clear hb1))
   go_ret
   exact⟨by rw[HN.out];rfl,HB1.out⟩
 · have hF:=qBJ.1 (qBI hc)
   have hf1:=hF.f1
   obtain⟨f,fs,hfs⟩:∃f fs,x.funcs=f::fs:=by
    cases hx:x.funcs with
    |nil=>rw[hx] at hf1;simp at hf1
    |cons f fs=>exact⟨f,fs,rfl⟩
   have HN:=qAZ (qEb hc hfs)
   rw[hc] at TE2
   obtain⟨a,cs,ea,hab,hcl,hR⟩:=s1.at (k:=0) (x:=f) (by rw[hfs];rfl)
   subst ea
   obtain⟨p0,p1,p2,rfl,-,-,⟨P0,c0,e4,-⟩,⟨P1,c1,e5,-⟩,⟨P2,c2,e6,-⟩⟩:=hR
   simp only[List.cons.injEq,and_true] at e4 e5 e6
   subst e4 e5 e6
   have HCL:Hid (∀w1,Below w.heap.size w w1→w1.cell? a=some (.slice P0 f.args.length c0)∧w1.cell? ⟨a.block,a.off+1,none⟩=some (.int .i64 f.ret.1)):=fun w1 hb=>by
    have k0:=hcl 0 _ rfl
    have k1:=hcl 1 _ rfl
    simp only[Nat.zero_mul,Nat.zero_add] at k0 k1
    have e0:a.add 0=a:=by simp[Addr.add]
    have e1:a.add 1=⟨a.block,a.off+1,none⟩:=by simp[Addr.add]
    rw[e0] at k0
    rw[e1] at k1
    exact⟨(hb.cell (p:=a) hab).trans k0,(hb.cell (p:=⟨a.block,a.off+1,none⟩) hab).trans k1⟩
   have hn1:0<n1:=by rw[←h1];exact hf1
   have hn1':(0:Int)<(n1:Int):=by omega
   clear hc hF hf1 hfs h1 s1 hcl l1 m1
   generalize mainB x=mb at*
   generalize f.args.length=ua at*
   generalize f.ret.1=k1 at*
   rcases Nat.eq_zero_or_pos ua with hu|hu
   · subst hu
     go_enter Tryz.func9,Tryz.ntmps9
     go_wp2_with (first
      |(go_at_call 21
        refine(TE2.out _ (HB0.out _)).mono ?_
        rintro e w1 ⟨rfl,hb1⟩
        have HB1:=qAZ ((HB0.out _).trans (hb1.mono (by simp)))
        obtain⟨x0,x1,x2,x3,x4⟩:=HC0.out.below hb1 (by simp)
        obtain⟨y0,y1⟩:=HCL.out _ HB1.out
        clear hb1))
     go_ret
     exact⟨by rw[HN.out];simp;rfl,HB1.out⟩
   · have hd:((ua:Int)==0)=false:=by simp;omega
     have hd2:(ua==0)=false:=by simp;omega
     go_enter Tryz.func9,Tryz.ntmps9
     go_wp2_with (first
      |(go_at_call 21
        refine(TE2.out _ (HB0.out _)).mono ?_
        rintro e w1 ⟨rfl,hb1⟩
        have HB1:=qAZ ((HB0.out _).trans (hb1.mono (by simp)))
        obtain⟨x0,x1,x2,x3,x4⟩:=HC0.out.below hb1 (by simp)
        obtain⟨y0,y1⟩:=HCL.out _ HB1.out
        clear hb1))
     go_ret
     exact⟨by rw[HN.out,decide_eq_false (show ¬ua=0 by omega)];rfl,HB1.out⟩
end Go.Proofs.YtconajaecpgjgaaGreat
