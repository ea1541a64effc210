/-
Rcs
-/
import Derived.Test.YtconajaecpgjgaaQ01
import Derived.Test.YtconajaecpgjgaaQ02
import Derived.Test.YtconajaecpgjgaaQ03
import Derived.Deep.RegionHeld3
import Derived.Deep.DeepCutAuto
set_option linter.unusedSimpArgs false
set_option linter.unusedVariables false
set_option maxRecDepth 100000
set_option maxHeartbeats 8000000
namespace Go.Proofs.Ytconajaecpgjgaa
open Go.RowKit
theorem qA {P:Prop} (h:P:=by
 clear hown13 hg13 hbk13
 refine hK.out _ _ ?_ (fun hHeld13=> ?_)
 · exact HS5.out _ B13.out
 clear hK K
 try simp only[Go.Act.put,List.setIfInBounds_toArray,List.set_cons_zero,List.set_cons_succ]
 refine wpAnyH_take (i:=14) (oi:={dst:=some 42,op:=Op.build 34 #[(0,Operand.tmp 31),(1,Operand.tmp 33),(2,Operand.tmp 37),(3,Operand.tmp 41)],type:=34,pos:="ref.go:347",after:= #[{on:=3,ground:=Ground.data},{on:=5,ground:=Ground.data},{on:=9,ground:=Ground.data},{on:=13,ground:=Ground.data}],guard:=none}) (v:= ?_) rfl (by kernel_rfl) (by kernel_rfl) (by kernel_rfl) (fun _ _ _ h=>h) (Or.inl ⟨by rfl,?_⟩) (by assumption) ?_
 rotate_left
 · intro w hSw
   try dsimp only at hSw
   go_simp
   try with_reducible rfl
 try simp only[Go.Act.put,List.setIfInBounds_toArray,List.set_cons_zero,List.set_cons_succ]
 refine wpAnyH_ready (rs:=[15]) (by kernel_rfl) (by simp) ?_
 refine AllReadyH.cons (o:=_) rfl (fun K hK=> ?_) ?_
 · skip
   go_simp
   refine hK.out _ _ ?_ (fun hHeld15=> ?_)
   · exact HS5.out _ (B13.out.alloc B13.out.size _)
   clear hK K
   try simp only[Go.Act.put,List.setIfInBounds_toArray,List.set_cons_zero,List.set_cons_succ]
   refine wpAnyH_ready (rs:=[16]) (by kernel_rfl) (by simp) ?_
   refine AllReadyH.cons (o:=_) rfl (fun K hK=> ?_) ?_
   · skip
     have R16:Hid ((w13.alloc (.cells #[.int .i64 kk,.int .i64 nn,.slice A6 pp c6,.slice B6 qq d6] 34)).ownsRow n0 34 4 (.slice Av k cv) k css.flatten):=zf (by have:=HR.out.2.1;rw[HLk.out] at this;exact this) fun b hb=>((B13.out.alloc B13.out.size _).block b (by have:=(HR.out.2.1.lt b hb).2;omega)).trans (HBV.out.block b (HR.out.2.1.lt b hb).2)
     refine ja 4 _ (by rfl) (.tmp 29) (.tmp 43) 22 34 (by rfl) (.agg #[.int .i64 0,.int .i64 0,.slice none 0 0,.slice none 0 0]) 64 Try.underlying22 qCK rfl (by decide) (by decide) n0 (.slice Av k cv) k css.flatten (by rfl) R16.out ⟨w13.heap.size,0,none⟩ 1 (by rfl) [.int .i64 kk,.int .i64 nn,.slice A6 pp c6,.slice B6 qq d6] rfl (qBh w13 34 [.int .i64 kk,.int .i64 nn,.slice A6 pp c6,.slice B6 qq d6]) (fun u hu=>(by simp at hu;rcases hu with rfl|rfl|rfl|rfl<;>rfl)) (by omega) (by have:=B13.out.size;simp;omega) ?_
     intro v16 w16 hown16 hg16 hv16
     have E16:=zL (qCM (ob:= .cells #[.int .i64 kk,.int .i64 nn,.slice A6 pp c6,.slice B6 qq d6] 34) (i:=0) (L:=frL) (x:=o) rfl HB.out HN3.out hnr HOC.out HBV.out B13.out (HMK.out _ _ _ _ O13.out P13.out) HR.out HLk.out HO.out hown16 hg16 hv16)
     have Q16:Hid (∀b,b<n0∨b=wr.heap.size→w16.heap[b]? =(w13.alloc (.cells #[.int .i64 kk,.int .i64 nn,.slice A6 pp c6,.slice B6 qq d6] 34)).heap[b]?):=fun b hb=>hg16.block b (by have:=B13.out.size;simp;omega) fun e=>(by have:=(HR.out.2.1.lt b e.symm);omega)
     have J16:=HS5.out _ (B13.out.alloc B13.out.size (.cells #[.int .i64 kk,.int .i64 nn,.slice A6 pp c6,.slice B6 qq d6] 34))
     have T16:w16.cell? ⟨wr.heap.size,0,none⟩=some (.int .i64 kk)∧w16.cell? ⟨wr.heap.size,1,none⟩=some (.int .i64 nn)∧w16.cell? ⟨wr.heap.size,2,none⟩=some (.slice A0 pp c0)∧w16.cell? ⟨wr.heap.size,3,none⟩=some (.slice B0 qq d0)∧w16.cell? ⟨w.heap.size+1+1,0,none⟩=some (.slice Av k cv):=⟨(zZ (a:=⟨wr.heap.size,0,none⟩) (Q16.out _ (.inr rfl))).trans J16.1,(zZ (a:=⟨wr.heap.size,1,none⟩) (Q16.out _ (.inr rfl))).trans J16.2.1,(zZ (a:=⟨wr.heap.size,2,none⟩) (Q16.out _ (.inr rfl))).trans J16.2.2.1,(zZ (a:=⟨wr.heap.size,3,none⟩) (Q16.out _ (.inr rfl))).trans J16.2.2.2.1,(zZ (a:=⟨w.heap.size+1+1,0,none⟩) (Q16.out _ (.inl (by show w.heap.size+1+1<_;have:=HN3.out;omega)))).trans J16.2.2.2.2⟩
     have F16:w16.frozen? ⟨w.heap.size+1+1,0,none⟩=false:=(World.frozen?_of_block (a:=⟨w.heap.size+1+1,0,none⟩) (Q16.out _ (.inl (by show w.heap.size+1+1<_;have:=HN3.out;omega)))).trans ((zb HPV.out (B13.out.alloc B13.out.size _) (by have:=HN3.out;omega)).frozen 0)
     have C16:=T16.2.2.2.2
     obtain⟨A16,n16,c16,rfl⟩:=qAF hown16
     clear hown16 hg16 hv16 J16
     refine hK.out _ _ ?_ (fun hHeld16=> ?_)
     · exact T16
     clear hK K
     try simp only[Go.Act.put,List.setIfInBounds_toArray,List.set_cons_zero,List.set_cons_succ]
     refine wpAnyH_take (i:=17) (oi:={dst:=some 45,op:=Op.fieldAddr 27 (Operand.tmp 3) 0,type:=0,pos:="ref.go:347",after:= #[{on:=0,ground:=Ground.phase},{on:=1,ground:=Ground.phase},{on:=2,ground:=Ground.phase},{on:=3,ground:=Ground.phase},{on:=4,ground:=Ground.phase},{on:=5,ground:=Ground.phase},{on:=6,ground:=Ground.phase},{on:=7,ground:=Ground.phase},{on:=8,ground:=Ground.phase},{on:=9,ground:=Ground.phase},{on:=10,ground:=Ground.phase},{on:=11,ground:=Ground.phase},{on:=12,ground:=Ground.phase},{on:=13,ground:=Ground.phase},{on:=14,ground:=Ground.phase},{on:=15,ground:=Ground.phase},{on:=16,ground:=Ground.phase}],guard:=none}) (v:= ?_) rfl (by kernel_rfl) (by kernel_rfl) (by kernel_rfl) (fun _ _ _ h=>h) (Or.inl ⟨by rfl,?_⟩) (by assumption) ?_
     rotate_left
     · intro w hSw
       try dsimp only at hSw
       go_simp
       try with_reducible rfl
     try simp only[Go.Act.put,List.setIfInBounds_toArray,List.set_cons_zero,List.set_cons_succ]
     refine wpAnyH_done (by kernel_rfl) ?_ _
     simp only[lastQ]
     go_simp
     go_wp2_with fail
     exact⟨⟨k+1,by omega,by simp,E16.out.1,E16.out.2.1,fun b h1 h2=>(E16.out.2.2.1 b h1 h2).trans (HKP.out b h1 h2),_,_,E16.out.2.2.2.1,E16.out.2.2.2.2⟩,by simp[intOf];omega⟩
   exact AllReadyH.nil
 exact AllReadyH.nil):P:=h
theorem qB {P:Prop} (h:P:=by
 clear hown13 hg13 hbk13
 refine hK.out _ _ ?_ (fun hHeld13=> ?_)
 · exact HS5.out _ B13.out
 clear hK K
 try simp only[Go.Act.put,List.setIfInBounds_toArray,List.set_cons_zero,List.set_cons_succ]
 refine wpAnyH_take (i:=14) (oi:={dst:=some 72,op:=Op.build 37 #[(0,Operand.tmp 61),(1,Operand.tmp 63),(2,Operand.tmp 67),(3,Operand.tmp 71)],type:=37,pos:="ref.go:351",after:= #[{on:=3,ground:=Ground.data},{on:=5,ground:=Ground.data},{on:=9,ground:=Ground.data},{on:=13,ground:=Ground.data}],guard:=none}) (v:= ?_) rfl (by kernel_rfl) (by kernel_rfl) (by kernel_rfl) (fun _ _ _ h=>h) (Or.inl ⟨by rfl,?_⟩) (by assumption) ?_
 rotate_left
 · intro w hSw
   try dsimp only at hSw
   go_simp
   try with_reducible rfl
 try simp only[Go.Act.put,List.setIfInBounds_toArray,List.set_cons_zero,List.set_cons_succ]
 refine wpAnyH_ready (rs:=[15]) (by kernel_rfl) (by simp) ?_
 refine AllReadyH.cons (o:=_) rfl (fun K hK=> ?_) ?_
 · skip
   go_simp
   refine hK.out _ _ ?_ (fun hHeld15=> ?_)
   · exact HS5.out _ (B13.out.alloc B13.out.size _)
   clear hK K
   try simp only[Go.Act.put,List.setIfInBounds_toArray,List.set_cons_zero,List.set_cons_succ]
   refine wpAnyH_ready (rs:=[16]) (by kernel_rfl) (by simp) ?_
   refine AllReadyH.cons (o:=_) rfl (fun K hK=> ?_) ?_
   · skip
     have R16:Hid ((w13.alloc (.cells #[.int .i64 kk,.int .i64 nn,.slice A6 pp c6,.slice B6 qq d6] 37)).ownsRow n1 37 4 (.slice Av k cv) k css.flatten):=zf (by have:=HR.out.2.1;rw[HLk.out] at this;exact this) fun b hb=>((B13.out.alloc B13.out.size _).block b (by have:=(HR.out.2.1.lt b hb).2;omega)).trans (HBV.out.block b (HR.out.2.1.lt b hb).2)
     refine ja 4 _ (by rfl) (.tmp 59) (.tmp 73) 23 37 (by rfl) (.agg #[.int .i64 0,.int .i64 0,.slice none 0 0,.slice none 0 0]) 64 Try.underlying23 qCH rfl (by decide) (by decide) n1 (.slice Av k cv) k css.flatten (by rfl) R16.out ⟨w13.heap.size,0,none⟩ 1 (by rfl) [.int .i64 kk,.int .i64 nn,.slice A6 pp c6,.slice B6 qq d6] rfl (qBh w13 37 [.int .i64 kk,.int .i64 nn,.slice A6 pp c6,.slice B6 qq d6]) (fun u hu=>(by simp at hu;rcases hu with rfl|rfl|rfl|rfl<;>rfl)) (by omega) (by have:=B13.out.size;simp;omega) ?_
     intro v16 w16 hown16 hg16 hv16
     have E16:=zL (qCM (ob:= .cells #[.int .i64 kk,.int .i64 nn,.slice A6 pp c6,.slice B6 qq d6] 37) (i:=1) (L:=obL) (x:=o) rfl HB.out HN3.out hnr HOC.out HBV.out B13.out (HMK.out _ _ _ _ O13.out P13.out) HR.out HLk.out HO.out hown16 hg16 hv16)
     have Q16:Hid (∀b,b<n1∨b=wr.heap.size→w16.heap[b]? =(w13.alloc (.cells #[.int .i64 kk,.int .i64 nn,.slice A6 pp c6,.slice B6 qq d6] 37)).heap[b]?):=fun b hb=>hg16.block b (by have:=B13.out.size;simp;omega) fun e=>(by have:=(HR.out.2.1.lt b e.symm);omega)
     have J16:=HS5.out _ (B13.out.alloc B13.out.size (.cells #[.int .i64 kk,.int .i64 nn,.slice A6 pp c6,.slice B6 qq d6] 37))
     have T16:w16.cell? ⟨wr.heap.size,0,none⟩=some (.int .i64 kk)∧w16.cell? ⟨wr.heap.size,1,none⟩=some (.int .i64 nn)∧w16.cell? ⟨wr.heap.size,2,none⟩=some (.slice A0 pp c0)∧w16.cell? ⟨wr.heap.size,3,none⟩=some (.slice B0 qq d0)∧w16.cell? ⟨w.heap.size+1+1,1,none⟩=some (.slice Av k cv):=⟨(zZ (a:=⟨wr.heap.size,0,none⟩) (Q16.out _ (.inr rfl))).trans J16.1,(zZ (a:=⟨wr.heap.size,1,none⟩) (Q16.out _ (.inr rfl))).trans J16.2.1,(zZ (a:=⟨wr.heap.size,2,none⟩) (Q16.out _ (.inr rfl))).trans J16.2.2.1,(zZ (a:=⟨wr.heap.size,3,none⟩) (Q16.out _ (.inr rfl))).trans J16.2.2.2.1,(zZ (a:=⟨w.heap.size+1+1,1,none⟩) (Q16.out _ (.inl (by show w.heap.size+1+1<_;have:=HN3.out;omega)))).trans J16.2.2.2.2⟩
     have F16:w16.frozen? ⟨w.heap.size+1+1,1,none⟩=false:=(World.frozen?_of_block (a:=⟨w.heap.size+1+1,1,none⟩) (Q16.out _ (.inl (by show w.heap.size+1+1<_;have:=HN3.out;omega)))).trans ((zb HPV.out (B13.out.alloc B13.out.size _) (by have:=HN3.out;omega)).frozen 1)
     have C16:=T16.2.2.2.2
     obtain⟨A16,n16,c16,rfl⟩:=qAF hown16
     clear hown16 hg16 hv16 J16
     refine hK.out _ _ ?_ (fun hHeld16=> ?_)
     · exact T16
     clear hK K
     try simp only[Go.Act.put,List.setIfInBounds_toArray,List.set_cons_zero,List.set_cons_succ]
     refine wpAnyH_take (i:=17) (oi:={dst:=some 75,op:=Op.fieldAddr 27 (Operand.tmp 3) 1,type:=0,pos:="ref.go:351",after:= #[{on:=0,ground:=Ground.phase},{on:=1,ground:=Ground.phase},{on:=2,ground:=Ground.phase},{on:=3,ground:=Ground.phase},{on:=4,ground:=Ground.phase},{on:=5,ground:=Ground.phase},{on:=6,ground:=Ground.phase},{on:=7,ground:=Ground.phase},{on:=8,ground:=Ground.phase},{on:=9,ground:=Ground.phase},{on:=10,ground:=Ground.phase},{on:=11,ground:=Ground.phase},{on:=12,ground:=Ground.phase},{on:=13,ground:=Ground.phase},{on:=14,ground:=Ground.phase},{on:=15,ground:=Ground.phase},{on:=16,ground:=Ground.phase}],guard:=none}) (v:= ?_) rfl (by kernel_rfl) (by kernel_rfl) (by kernel_rfl) (fun _ _ _ h=>h) (Or.inl ⟨by rfl,?_⟩) (by assumption) ?_
     rotate_left
     · intro w hSw
       try dsimp only at hSw
       go_simp
       try with_reducible rfl
     try simp only[Go.Act.put,List.setIfInBounds_toArray,List.set_cons_zero,List.set_cons_succ]
     refine wpAnyH_done (by kernel_rfl) ?_ _
     simp only[lastQ]
     go_simp
     go_wp2_with fail
     exact⟨⟨k+1,by omega,by simp,E16.out.1,E16.out.2.1,fun b h1 h2=>(E16.out.2.2.1 b h1 h2).trans (HKP.out b h1 h2),_,_,E16.out.2.2.2.1,E16.out.2.2.2.2⟩,by simp[intOf];omega⟩
   exact AllReadyH.nil
 exact AllReadyH.nil):P:=h
theorem qF {P:Prop} (h:P:=by
 intro w hSw
 try dsimp only at hSw
 go_simp
 try with_reducible rfl):P:=h
theorem qBv (css:List Value) (s:Stt) (w:World) (hs:stL.R (·<w.heap.size) w css s) (hz:s.low):
 Calls Try.prog 6 #[vAgg css] w fun e w'=>∃cs',e= .returned (vAgg cs')∧stL.R (fun b=>w.heap.size≤b∧b<w'.heap.size) w' cs' s∧Below w.heap.size w w':=by
 obtain⟨F,cf,O,co,H,ch,rfl,-,-,-,-,-,-,sF,sO,sH,hq⟩:=zu hs
 obtain⟨nf,hnf⟩:∃x,s.fr.length=x:=⟨_,rfl⟩
 obtain⟨no,hno⟩:∃x,s.hp.length=x:=⟨_,rfl⟩
 obtain⟨nh,hnh⟩:∃x,s.hn.length=x:=⟨_,rfl⟩
 obtain⟨z0,z1,z2,z3,z4⟩:=hz
 rw[hnf] at z0
 rw[hno] at z1
 rw[hnh] at z2
 have HNF:=zL hnf
 have HNO:=zL hno
 have HNH:=zL hnh
 have HSF:=zL sF
 have HSO:=zL sO
 have HSH:=zL sH
 have HQ:=zL hq
 have HZF:=zL z3
 have HZO:=zL z4
 rw[hnf,hno,hnh]
 simp only[vAgg]
 show Calls Try.prog 6 #[.agg #[.slice F nf cf,.slice O no co,.slice H nh ch,.int .i64 s.quota,.int .i64 s.used,.int .i64 s.fin,.int .u64 (s.val:Int)]] w _
 clear hs hnf hno hnh sF sO sH hq z3 z4
 go_enter Try.func6,Try.ntmps6
 go_upto_region 2 with(fail)
 refine zi fun V0 hV0=> ?_
 have e0:Hid (Blk V0 w.heap.size 27 #[.slice F nf cf,.slice O no co,.slice H nh ch,.int .i64 s.quota,.int .i64 s.used,.int .i64 s.fin,.int .u64 (s.val:Int)]):=by show Blk _ _ _ _;rw[hV0];repeat(first|(refine zl ?_;simp;done)|refine zc ?_)
 have e1:Hid (Blk V0 (w.heap.size+1) 27 #[.slice none 0 0,.slice none 0 0,.slice none 0 0,.int .i64 0,.int .i64 0,.int .i64 0,.int .u64 0]):=by show Blk _ _ _ _;rw[hV0];repeat(first|(refine zl ?_;simp;done)|refine zc ?_)
 have e2:Hid (Blk V0 (w.heap.size+1+1) 27 #[.slice F nf cf,.slice O no co,.slice H nh ch,.int .i64 s.quota,.int .i64 s.used,.int .i64 s.fin,.int .u64 (s.val:Int)]):=by show Blk _ _ _ _;rw[hV0];repeat(first|(refine zl ?_;simp;done)|refine zc ?_)
 have hs0:V0.heap.size=w.heap.size+3:=by rw[hV0];simp
 have HB0:Hid (Below w.heap.size w V0):=by show Below _ _ _;rw[hV0];exact(((zS _ _).alloc (zQ _) _).alloc (by simp) _).alloc qT _
 clear hV0
 have s2:=e0.out.cell 2
 have E2:=fun(ob:Obj)=>(zc (o:=ob) e2.out)
 go_upto_region 3 with(first
  |(at_builtin
    refine qAS hdL _ rfl (.tmp 9) (.tmp 11) 24 39 rfl (.agg #[.int .i64 0,.int .u64 0,.bool false]) 24 Try.underlying24 qCJ rfl (by decide) (by omega) (w.heap.size+3) (.slice (some ⟨w.heap.size+3,0,none⟩) 0 0) rfl (by have:=jN V0 39 hdL.k;rw[hs0] at this;exact this) H nh ch s.hn rfl HNH.out (·<w.heap.size) (HSH.out.keep fun b hb=>(zd V0 _ b (by omega)).trans (HB0.out.block b hb)) (by omega) qT ?_
    intro v1 w1 css hcl hown1 hR1 hg1
    obtain⟨A1,m1,c1,rfl⟩:=qAF hown1
    have HH1:Hid ((slL hdL).R (fun b=>w.heap.size+3≤b∧b<w1.heap.size) w1 [.slice A1 m1 c1] s.hn):=qC9 (hcl.trans HNH.out.symm) (by rw[HNH.out];exact hown1) (fun j x cs h1 h2=>hR1 j x cs h1 h2) fun b h1 h2=>⟨by omega,h2⟩
    have HB1:Hid (Below w.heap.size w w1):=(HB0.out.alloc (by omega) (.cells #[] 39)).grown hg1 qT (fun i hi=>by simp[Value.ownBlock] at hi;omega)
    have hk1:∀b,b<V0.heap.size→w1.heap[b]? =V0.heap[b]? :=fun b hb=>(hg1.block b qT (fun e=>by simp[Value.ownBlock] at e;omega)).trans (zd V0 _ b hb)
    have hs1:w.heap.size+3≤w1.heap.size:=by have:=hg1.size;simp at this;omega
    have HP1:Hid (Blk w1 w.heap.size 27 #[.slice F nf cf,.slice O no co,.slice H nh ch,.int .i64 s.quota,.int .i64 s.used,.int .i64 s.fin,.int .u64 (s.val:Int)]):=(hk1 _ (by omega)).trans e0.out
    have HQ1:Hid (Blk w1 (w.heap.size+1) 27 #[.slice none 0 0,.slice none 0 0,.slice none 0 0,.int .i64 0,.int .i64 0,.int .i64 0,.int .u64 0]):=(hk1 _ (by omega)).trans e1.out
    have HR1:Hid (Blk w1 (w.heap.size+1+1) 27 #[.slice F nf cf,.slice O no co,.slice H nh ch,.int .i64 s.quota,.int .i64 s.used,.int .i64 s.fin,.int .u64 (s.val:Int)]):=(hk1 _ (by omega)).trans e2.out
    have f0:=HR1.out.frozen 0
    have f1:=HR1.out.frozen 1
    have f2:=HR1.out.frozen 2
    have g0:=HR1.out.cell 0
    have g1:=HR1.out.cell 1
    have g2:=HR1.out.cell 2
    clear hcl hown1 hR1 hg1 hk1))
 refine zi fun W hW=> ?_
 obtain⟨uh,eu⟩:∃u,Value.slice A1 m1 c1=u:=⟨_,rfl⟩
 rw[eu] at hW HH1
 have hsW:W.heap.size=w1.heap.size:=by rw[hW];simp[World.setCell]
 have hkW:∀b,b≠w.heap.size+1+1→W.heap[b]? =w1.heap[b]? :=fun b hb=>by rw[hW];repeat(first|with_reducible exact rfl|(with_reducible refine(zX _ _ _ _ ?_).trans ?_;(show b≠w.heap.size+1+1;exact hb)))
 have HPW:Hid (Blk W w.heap.size 27 #[.slice F nf cf,.slice O no co,.slice H nh ch,.int .i64 s.quota,.int .i64 s.used,.int .i64 s.fin,.int .u64 (s.val:Int)]):=(hkW _ (by omega)).trans HP1.out
 have HQW:Hid (Blk W (w.heap.size+1) 27 #[.slice none 0 0,.slice none 0 0,.slice none 0 0,.int .i64 0,.int .i64 0,.int .i64 0,.int .u64 0]):=(hkW _ (by omega)).trans HQ1.out
 have HOW:Hid (Blk W (w.heap.size+1+1) 27 #[.slice none 0 0,.slice none 0 0,uh,.int .i64 s.quota,.int .i64 s.used,.int .i64 s.fin,.int .u64 (s.val:Int)]):=by show Blk _ _ _ _;rw[hW];exact((HR1.out.set 0 _).set 1 _).set 2 _
 have HHW:Hid ((slL hdL).R (fun b=>w.heap.size+3≤b∧b<w1.heap.size) W [uh] s.hn):=(slL hdL).keep HH1.out fun b hb=>hkW b (by omega)
 have HBW:Hid (Below w.heap.size w W):=by show Below _ _ _;rw[hW];repeat(first|with_reducible exact HB1.out|with_reducible refine Below.setCell ?_ (by show w.heap.size≤w.heap.size+1+1;omega) _)
 clear hW hkW s2 f0 f1 f2 g0 g1 g2 eu E2
 obtain⟨n0,en0⟩:∃x,W.heap.size=x:=⟨_,rfl⟩
 have hn0:w.heap.size+3≤n0:=by omega
 have hW0:n0≤W.heap.size:=by omega
 have hw1:w1.heap.size≤n0:=by omega
 clear en0 hsW hs0 hs1
 go_wp2_with fail
 go_loopw [4] (fun i wr=>∃k:Nat,k≤nf∧i= .int .i64 (k:Nat)∧Below w.heap.size w wr∧n0≤wr.heap.size∧(∀b,b<n0→b≠w.heap.size+1+1→wr.heap[b]? =W.heap[b]?)∧∃v css,Blk wr (w.heap.size+1+1) 27 #[v,.slice none 0 0,uh,.int .i64 s.quota,.int .i64 s.used,.int .i64 s.fin,.int .u64 (s.val:Int)]∧Rw frL 34 n0 wr v css (s.fr.take k)) (fun i _=>nf-(intOf i).toNat)
 case atStart=>exact⟨0,zY _,rfl,HBW.out,by omega,fun _ _ _=>rfl,_,[],HOW.out,by simpa using Rw.nil _ _ _ _⟩
 case round=>
  obtain⟨k,hk,rfl,hbel,hnr,hkp,v,css,hoc,hrow⟩:=hrel
  obtain⟨Av,cv,rfl⟩:=hrow.shape
  have hlk:(s.fr.take k).length=k:=by rw[List.length_take,HNF.out];omega
  rw[hlk] at hoc hrow
  have HB:=zL hbel
  have HKP:=zL hkp
  have HOC:=zL hoc
  have HR:=zL hrow
  have HLk:=zL hlk
  have HN3:Hid (w.heap.size+3≤n0):=(by show _≤_;omega)
  have HSP:Hid (Blk wr w.heap.size 27 #[.slice F nf cf,.slice O no co,.slice H nh ch,.int .i64 s.quota,.int .i64 s.used,.int .i64 s.fin,.int .u64 (s.val:Int)]):=(HKP.out _ (by omega) (by omega)).trans HPW.out
  clear hbel hkp hoc hrow hlk
  have x1:=HSP.out.cell 0
  by_cases hlt:k<nf
  · obtain⟨o,ho⟩:∃o,s.fr[k]? =some o:=⟨s.fr[k]'(by rw[HNF.out];exact hlt),zM _⟩
    as_aux_lemma=>
     have hsm:=HZF.out o (zT ho)
     obtain⟨a,cs,ea,hab,hc,hR⟩:=HSF.out.at ho
     have HO:=zL ho
     clear ho
     subst ea
     obtain⟨A0,c0,B0,d0,rfl,-,-,-,-,hWo,hBo,hkk,hnn⟩:=jC hR
     clear hR
     have ca0:=(HB.out.cell (p:=a.add (k*4)) qI).trans (hc 0 _ rfl)
     have ca1:=(HB.out.cell (p:=a.add (k*4+1)) qI).trans (hc 1 _ rfl)
     rw[zV a (k*4) 1 (by omega)] at ca1
     have ca2:=(HB.out.cell (p:=a.add (k*4+2)) qI).trans (hc 2 _ rfl)
     rw[zV a (k*4) 2 (by omega)] at ca2
     have ca3:=(HB.out.cell (p:=a.add (k*4+3)) qI).trans (hc 3 _ rfl)
     rw[zV a (k*4) 3 (by omega)] at ca3
     clear hc
     go_upto_region 7 with(fail)
     refine zi fun V hV=> ?_
     have b0:Blk V wr.heap.size 34 #[.int .i64 o.fn,.int .i64 o.pc,.slice A0 o.locs.length c0,.slice B0 o.stk.length d0]:=by rw[hV];exact zl rfl
     have hBV:Below wr.heap.size wr V:=by rw[hV];exact(zS _ _).alloc (zQ _) _
     have hsV:V.heap.size=wr.heap.size+1:=by rw[hV];simp
     clear hV ca0 ca1 ca2 ca3
     have hwr:=HB.out.size
     have HBwV:Hid (Below w.heap.size w V):=HB.out.trans (hBV.mono (by omega))
     have HPV:Hid (Blk V (w.heap.size+1+1) 27 #[.slice Av k cv,.slice none 0 0,uh,.int .i64 s.quota,.int .i64 s.used,.int .i64 s.fin,.int .u64 (s.val:Int)]):=zb HOC.out hBV (by have:=HN3.out;omega)
     have HSW:Hid (Sq numL (·<w.heap.size) w A0 o.locs):=hWo
     have HSB:Hid (Sq numL (·<w.heap.size) w B0 o.stk):=hBo
     have HOX:Hid ((∀x∈o.stk,x<B64)∧(∀x∈o.locs,x<B64)∧I64 o.fn∧I64 o.pc):=⟨qAI hBo,qAI hWo,hkk,hnn⟩
     have HB0:=zL b0
     have HBV:=zL hBV
     obtain⟨pp,ep⟩:∃p,o.locs.length=p:=⟨_,rfl⟩
     obtain⟨qq,eq⟩:∃p,o.stk.length=p:=⟨_,rfl⟩
     obtain⟨kk,ek⟩:∃p,o.fn=p:=⟨_,rfl⟩
     obtain⟨nn,en⟩:∃p,o.pc=p:=⟨_,rfl⟩
     have hpp:pp≤100000:=by rw[←ep];exact hsm.1
     have hqq:qq≤100000:=by rw[←eq];exact hsm.2
     rw[ep,eq,ek,en] at b0 HB0
     rw[ep,eq,ek,en]
     have EP:=zL ep
     have EQ:=zL eq
     have EK:=zL ek
     have EN:=zL en
     have HMK:Hid (∀(X:World) (M:Nat) (v1 v2:Value),X.ownsRow M 25 1 v1 pp (Ns o.locs)→X.ownsRow M 25 1 v2 qq (Ns o.stk)→frL.R (fun b=>M≤b∧b<X.heap.size) X [.int .i64 kk,.int .i64 nn,v1,v2] o):=fun X M v1 v2 h1 h2=>by
      rw[←EK.out,←EN.out]
      exact⟨v1,v2,rfl,HOX.out.2.2.1,HOX.out.2.2.2,qAC h1 HOX.out.2.1,qAC h2 HOX.out.1⟩
     clear hWo hBo hkk hnn hBV ep eq ek en hsm
     have HS5:Hid (∀X,Below V.heap.size V X→X.cell? ⟨wr.heap.size,0,none⟩=some (.int .i64 kk)∧X.cell? ⟨wr.heap.size,1,none⟩=some (.int .i64 nn)∧X.cell? ⟨wr.heap.size,2,none⟩=some (.slice A0 pp c0)∧X.cell? ⟨wr.heap.size,3,none⟩=some (.slice B0 qq d0)∧X.cell? ⟨w.heap.size+1+1,0,none⟩=some (.slice Av k cv)):=fun X hX=>by
      have:=zb HB0.out hX (by omega)
      exact⟨this.cell 0,this.cell 1,this.cell 2,this.cell 3,(zb HPV.out hX (by have:=HN3.out;omega)).cell 0⟩
     clear b0 x1
     refine j6 (S:=(fun w'=>w'.cell? ⟨wr.heap.size,0,none⟩=some (.int .i64 kk)∧w'.cell? ⟨wr.heap.size,1,none⟩=some (.int .i64 nn)∧w'.cell? ⟨wr.heap.size,2,none⟩=some (.slice A0 pp c0)∧w'.cell? ⟨wr.heap.size,3,none⟩=some (.slice B0 qq d0)∧w'.cell? ⟨w.heap.size+1+1,0,none⟩=some (.slice Av k cv))) qD qD (HS5.out V.drew (zS V.heap.size V).drew) (fun hHeld=> ?_)
     simp only[initO,lastO]
     refine wpAnyH_take (i:=0) (oi:={dst:=some 28,op:=Op.fieldAddr 27 (Operand.tmp 3) 0,type:=0,pos:="ref.go:347",after:= #[],guard:=none}) (v:= ?_) rfl qD qD qD (fun _ _ _ h=>h) (Or.inl ⟨by rfl,?_⟩) qd ?_
     rotate_left
     · exact qF
     try simp only[Go.Act.put,List.setIfInBounds_toArray,List.set_cons_zero,List.set_cons_succ]
     refine wpAnyH_take (i:=1) (oi:={dst:=some 29,op:=Op.load 22 (Operand.tmp 28),type:=22,pos:="ref.go:347",after:= #[{on:=0,ground:=Ground.data}],guard:=none}) (v:= ?_) rfl qD qD qD (fun _ _ _ h=>h) (Or.inl ⟨by rfl,?_⟩) qd ?_
     rotate_left
     · exact qF
     try simp only[Go.Act.put,List.setIfInBounds_toArray,List.set_cons_zero,List.set_cons_succ]
     refine wpAnyH_take (i:=2) (oi:={dst:=some 30,op:=Op.fieldAddr 34 (Operand.tmp 5) 0,type:=0,pos:="ref.go:347",after:= #[],guard:=none}) (v:= ?_) rfl qD qD qD (fun _ _ _ h=>h) (Or.inl ⟨by rfl,?_⟩) qd ?_
     rotate_left
     · exact qF
     try simp only[Go.Act.put,List.setIfInBounds_toArray,List.set_cons_zero,List.set_cons_succ]
     refine wpAnyH_take (i:=3) (oi:={dst:=some 31,op:=Op.load 3 (Operand.tmp 30),type:=3,pos:="ref.go:347",after:= #[{on:=2,ground:=Ground.data}],guard:=none}) (v:= ?_) rfl qD qD qD (fun _ _ _ h=>h) (Or.inl ⟨by rfl,?_⟩) qd ?_
     rotate_left
     · exact qF
     try simp only[Go.Act.put,List.setIfInBounds_toArray,List.set_cons_zero,List.set_cons_succ]
     refine wpAnyH_take (i:=4) (oi:={dst:=some 32,op:=Op.fieldAddr 34 (Operand.tmp 5) 1,type:=0,pos:="ref.go:347",after:= #[],guard:=none}) (v:= ?_) rfl qD qD qD (fun _ _ _ h=>h) (Or.inl ⟨by rfl,?_⟩) qd ?_
     rotate_left
     · exact qF
     try simp only[Go.Act.put,List.setIfInBounds_toArray,List.set_cons_zero,List.set_cons_succ]
     refine wpAnyH_take (i:=5) (oi:={dst:=some 33,op:=Op.load 3 (Operand.tmp 32),type:=3,pos:="ref.go:347",after:= #[{on:=4,ground:=Ground.data}],guard:=none}) (v:= ?_) rfl qD qD qD (fun _ _ _ h=>h) (Or.inl ⟨by rfl,?_⟩) qd ?_
     rotate_left
     · exact qF
     try simp only[Go.Act.put,List.setIfInBounds_toArray,List.set_cons_zero,List.set_cons_succ]
     refine wpAnyH_take (i:=7) (oi:={dst:=some 35,op:=Op.fieldAddr 34 (Operand.tmp 5) 2,type:=0,pos:="ref.go:347",after:= #[],guard:=none}) (v:= ?_) rfl qD qD qD (fun _ _ _ h=>h) (Or.inl ⟨by rfl,?_⟩) qd ?_
     rotate_left
     · exact qF
     try simp only[Go.Act.put,List.setIfInBounds_toArray,List.set_cons_zero,List.set_cons_succ]
     refine wpAnyH_take (i:=8) (oi:={dst:=some 36,op:=Op.load 32 (Operand.tmp 35),type:=32,pos:="ref.go:347",after:= #[{on:=7,ground:=Ground.data}],guard:=none}) (v:= ?_) rfl qD qD qD (fun _ _ _ h=>h) (Or.inl ⟨by rfl,?_⟩) qd ?_
     rotate_left
     · exact qF
     try simp only[Go.Act.put,List.setIfInBounds_toArray,List.set_cons_zero,List.set_cons_succ]
     refine wpAnyH_take (i:=11) (oi:={dst:=some 39,op:=Op.fieldAddr 34 (Operand.tmp 5) 3,type:=0,pos:="ref.go:347",after:= #[],guard:=none}) (v:= ?_) rfl qD qD qD (fun _ _ _ h=>h) (Or.inl ⟨by rfl,?_⟩) qd ?_
     rotate_left
     · exact qF
     try simp only[Go.Act.put,List.setIfInBounds_toArray,List.set_cons_zero,List.set_cons_succ]
     refine wpAnyH_take (i:=12) (oi:={dst:=some 40,op:=Op.load 32 (Operand.tmp 39),type:=32,pos:="ref.go:347",after:= #[{on:=11,ground:=Ground.data}],guard:=none}) (v:= ?_) rfl qD qD qD (fun _ _ _ h=>h) (Or.inl ⟨by rfl,?_⟩) qd ?_
     rotate_left
     · exact qF
     try simp only[Go.Act.put,List.setIfInBounds_toArray,List.set_cons_zero,List.set_cons_succ]
     refine zn (fun X0 hX0=> ?_)
     have B0':Hid (Below V.heap.size V X0):=(by show Below _ _ _;rw[hX0];exact(zS V.heap.size V).drew)
     have Z0':Hid (X0.heap.size=V.heap.size):=(by show _=_;rw[hX0];rfl)
     have hHeld0:=HS5.out X0 B0'.out
     clear hX0
     refine wpAnyH_ready (rs:=[6,10]) qD (by simp) ?_
     refine AllReadyH.cons (o:=_) rfl (fun K hK=> ?_) ?_
     · skip
       go_simp
       refine hK.out _ _ ?_ (fun hHeldXw=> ?_)
       · exact q6
       clear hK K
       try simp only[Go.Act.put,List.setIfInBounds_toArray,List.set_cons_zero,List.set_cons_succ]
       refine zn (fun Xw hXw=> ?_)
       have BXw:Hid (Below V.heap.size V Xw):=(by show Below _ _ _;rw[hXw];exact B0'.out.alloc q9 _)
       have KXw:Hid (Blk Xw X0.heap.size 25 #[]):=zD
       have ZXw:Hid (Xw.heap.size=X0.heap.size+1):=(by show _=_;rw[hXw];simp)
       clear hXw
       refine wpAnyH_ready (rs:=[9,10]) qD (by simp) ?_
       refine AllReadyH.cons (o:=_) rfl (fun K hK=> ?_) ?_
       · skip
         refine zz _ (by rfl) (.tmp 34) (.tmp 36) (by rfl) V.heap.size X0.heap.size (by rfl) KXw.out (by have:=Z0'.out;have:=ZXw.out;omega) A0 pp c0 o.locs (by rfl) EP.out (·<w.heap.size) (HSW.out.keep fun b hb=>(BXw.out.block b qc).trans (HBwV.out.block b hb)) (by omega) ?_
         intro A6 c6 w9 hown9 hg9 hbk9
         have B9:Hid (Below V.heap.size V w9):=BXw.out.grown hg9 qg (fun i hi=>(by injection hi with hi;have:=Z0'.out;have:=ZXw.out;omega))
         have O9:=zL hown9
         have M9:=zL hbk9
         have Z9:Hid (Xw.heap.size≤w9.heap.size):=hg9.size
         clear hown9 hg9 hbk9
         refine hK.out _ _ ?_ (fun hHeld9=> ?_)
         · exact HS5.out _ B9.out
         clear hK K
         try simp only[Go.Act.put,List.setIfInBounds_toArray,List.set_cons_zero,List.set_cons_succ]
         refine wpAnyH_ready (rs:=[10]) qD (by simp) ?_
         refine AllReadyH.cons (o:=_) rfl (fun K hK=> ?_) ?_
         · skip
           go_simp
           refine hK.out _ _ ?_ (fun hHeldXb=> ?_)
           · exact HS5.out _ (B9.out.alloc zA _)
           clear hK K
           try simp only[Go.Act.put,List.setIfInBounds_toArray,List.set_cons_zero,List.set_cons_succ]
           refine zn (fun Xb hXb=> ?_)
           have BXb:Hid (Below V.heap.size V Xb):=(by show Below _ _ _;rw[hXb];exact B9.out.alloc zA _)
           have KXb:Hid (Blk Xb w9.heap.size 25 #[]):=qk
           have ZXb:Hid (Xb.heap.size=w9.heap.size+1):=zJ
           have OXb:Hid (Xb.ownsRow V.heap.size 25 1 (.slice A6 pp c6) pp (Ns o.locs)):=zf O9.out fun b hb=>(by rw[hXb];exact zd _ _ _ (O9.out.lt b hb).2)
           clear hXb
           refine wpAnyH_ready (rs:=[13]) qD (by simp) ?_
           refine AllReadyH.cons (o:=_) rfl (fun K hK=> ?_) ?_
           · skip
             refine zz _ (by rfl) (.tmp 38) (.tmp 40) (by rfl) V.heap.size w9.heap.size (by rfl) KXb.out (by have:=Z0'.out;have:=ZXw.out;have:=Z9.out;have:=ZXb.out;omega) B0 qq d0 o.stk (by rfl) EQ.out (·<w.heap.size) (HSB.out.keep fun b hb=>(BXb.out.block b qc).trans (HBwV.out.block b hb)) (by omega) ?_
             intro B6 d6 w13 hown13 hg13 hbk13
             have B13:Hid (Below V.heap.size V w13):=BXb.out.grown hg13 qp (fun i hi=>(by injection hi with hi;have:=Z0'.out;have:=ZXw.out;have:=Z9.out;have:=ZXb.out;omega))
             have P13:=zL hown13
             have Z13:Hid (Xb.heap.size≤w13.heap.size):=hg13.size
             have O13:Hid (w13.ownsRow V.heap.size 25 1 (.slice A6 pp c6) pp (Ns o.locs)):=zf OXb.out fun b hb=>hg13.block b (OXb.out.lt b hb).2 (fun e=>zG)
             exact qA
           exact qs
         exact qs
       refine AllReadyH.cons (o:=_) rfl (fun K hK=> ?_) ?_
       · skip
         go_simp
         refine hK.out _ _ ?_ (fun hHeldXb=> ?_)
         · exact HS5.out _ (BXw.out.alloc qg _)
         clear hK K
         try simp only[Go.Act.put,List.setIfInBounds_toArray,List.set_cons_zero,List.set_cons_succ]
         refine zn (fun Xb hXb=> ?_)
         have BXb:Hid (Below V.heap.size V Xb):=(by show Below _ _ _;rw[hXb];exact BXw.out.alloc qg _)
         have KXb:Hid (Blk Xb Xw.heap.size 25 #[]):=qk
         have ZXb:Hid (Xb.heap.size=Xw.heap.size+1):=zJ
         have KwXb:Hid (Blk Xb X0.heap.size 25 #[]):=(by show Blk _ _ _ _;rw[hXb];exact zc KXw.out)
         clear hXb
         refine wpAnyH_ready (rs:=[9]) qD (by simp) ?_
         refine AllReadyH.cons (o:=_) rfl (fun K hK=> ?_) ?_
         · skip
           refine zz _ (by rfl) (.tmp 34) (.tmp 36) (by rfl) V.heap.size X0.heap.size (by rfl) KwXb.out q8 A0 pp c0 o.locs (by rfl) EP.out (·<w.heap.size) (HSW.out.keep fun b hb=>(BXb.out.block b qc).trans (HBwV.out.block b hb)) (by omega) ?_
           intro A6 c6 w9 hown9 hg9 hbk9
           have B9:Hid (Below V.heap.size V w9):=BXb.out.grown hg9 q8 (fun i hi=>(by injection hi with hi;have:=Z0'.out;have:=ZXw.out;have:=ZXb.out;omega))
           have O9:=zL hown9
           have M9:=zL hbk9
           have Z9:Hid (Xb.heap.size≤w9.heap.size):=hg9.size
           have Kb9:Hid (Blk w9 Xw.heap.size 25 #[]):=(hg9.block _ KXb.out.lt (fun e=>(by injection e with e;have:=Z0'.out;have:=ZXw.out;have:=ZXb.out;omega))).trans KXb.out
           clear hown9 hg9 hbk9
           refine hK.out _ _ ?_ (fun hHeld9=> ?_)
           · exact HS5.out _ B9.out
           clear hK K
           try simp only[Go.Act.put,List.setIfInBounds_toArray,List.set_cons_zero,List.set_cons_succ]
           refine wpAnyH_ready (rs:=[13]) qD (by simp) ?_
           refine AllReadyH.cons (o:=_) rfl (fun K hK=> ?_) ?_
           · skip
             refine zz _ (by rfl) (.tmp 38) (.tmp 40) (by rfl) V.heap.size Xw.heap.size (by rfl) Kb9.out (by have:=Z0'.out;have:=ZXw.out;have:=ZXb.out;have:=Z9.out;omega) B0 qq d0 o.stk (by rfl) EQ.out (·<w.heap.size) (HSB.out.keep fun b hb=>(B9.out.block b qc).trans (HBwV.out.block b hb)) (by omega) ?_
             intro B6 d6 w13 hown13 hg13 hbk13
             have B13:Hid (Below V.heap.size V w13):=B9.out.grown hg13 qr (fun i hi=>(by injection hi with hi;have:=Z0'.out;have:=ZXw.out;have:=ZXb.out;have:=Z9.out;omega))
             have P13:=zL hown13
             have Z13:Hid (w9.heap.size≤w13.heap.size):=hg13.size
             have O13:Hid (w13.ownsRow V.heap.size 25 1 (.slice A6 pp c6) pp (Ns o.locs)):=zf O9.out fun b hb=>hg13.block b (O9.out.lt b hb).2 (fun e=>zH)
             exact qA
           exact qs
         exact qs
       exact qs
     refine AllReadyH.cons (o:=_) rfl (fun K hK=> ?_) ?_
     · skip
       go_simp
       refine hK.out _ _ ?_ (fun hHeldXb=> ?_)
       · exact q6
       clear hK K
       try simp only[Go.Act.put,List.setIfInBounds_toArray,List.set_cons_zero,List.set_cons_succ]
       refine zn (fun Xb hXb=> ?_)
       have BXb:Hid (Below V.heap.size V Xb):=(by show Below _ _ _;rw[hXb];exact B0'.out.alloc q9 _)
       have KXb:Hid (Blk Xb X0.heap.size 25 #[]):=qk
       have ZXb:Hid (Xb.heap.size=X0.heap.size+1):=zJ
       clear hXb
       refine wpAnyH_ready (rs:=[6]) qD (by simp) ?_
       refine AllReadyH.cons (o:=_) rfl (fun K hK=> ?_) ?_
       · skip
         go_simp
         refine hK.out _ _ ?_ (fun hHeldXw=> ?_)
         · exact HS5.out _ (BXb.out.alloc (by have:=Z0'.out;have:=ZXb.out;omega) _)
         clear hK K
         try simp only[Go.Act.put,List.setIfInBounds_toArray,List.set_cons_zero,List.set_cons_succ]
         refine zn (fun Xw hXw=> ?_)
         have BXw:Hid (Below V.heap.size V Xw):=(by show Below _ _ _;rw[hXw];exact BXb.out.alloc (by have:=Z0'.out;have:=ZXb.out;omega) _)
         have KXw:Hid (Blk Xw Xb.heap.size 25 #[]):=zD
         have ZXw:Hid (Xw.heap.size=Xb.heap.size+1):=(by show _=_;rw[hXw];simp)
         have KbXw:Hid (Blk Xw X0.heap.size 25 #[]):=(by show Blk _ _ _ _;rw[hXw];exact zc KXb.out)
         clear hXw
         refine wpAnyH_ready (rs:=[9]) qD (by simp) ?_
         refine AllReadyH.cons (o:=_) rfl (fun K hK=> ?_) ?_
         · skip
           refine zz _ (by rfl) (.tmp 34) (.tmp 36) (by rfl) V.heap.size Xb.heap.size (by rfl) KXw.out q7 A0 pp c0 o.locs (by rfl) EP.out (·<w.heap.size) (HSW.out.keep fun b hb=>(BXw.out.block b qc).trans (HBwV.out.block b hb)) (by omega) ?_
           intro A6 c6 w9 hown9 hg9 hbk9
           have B9:Hid (Below V.heap.size V w9):=BXw.out.grown hg9 q7 (fun i hi=>(by injection hi with hi;have:=Z0'.out;have:=ZXb.out;have:=ZXw.out;omega))
           have O9:=zL hown9
           have M9:=zL hbk9
           have Z9:Hid (Xw.heap.size≤w9.heap.size):=hg9.size
           have Kb9:Hid (Blk w9 X0.heap.size 25 #[]):=(hg9.block _ KbXw.out.lt (fun e=>(by injection e with e;have:=Z0'.out;have:=ZXb.out;have:=ZXw.out;omega))).trans KbXw.out
           clear hown9 hg9 hbk9
           refine hK.out _ _ ?_ (fun hHeld9=> ?_)
           · exact HS5.out _ B9.out
           clear hK K
           try simp only[Go.Act.put,List.setIfInBounds_toArray,List.set_cons_zero,List.set_cons_succ]
           refine wpAnyH_ready (rs:=[13]) qD (by simp) ?_
           refine AllReadyH.cons (o:=_) rfl (fun K hK=> ?_) ?_
           · skip
             refine zz _ (by rfl) (.tmp 38) (.tmp 40) (by rfl) V.heap.size X0.heap.size (by rfl) Kb9.out (by have:=Z0'.out;have:=ZXb.out;have:=ZXw.out;have:=Z9.out;omega) B0 qq d0 o.stk (by rfl) EQ.out (·<w.heap.size) (HSB.out.keep fun b hb=>(B9.out.block b qc).trans (HBwV.out.block b hb)) (by omega) ?_
             intro B6 d6 w13 hown13 hg13 hbk13
             have B13:Hid (Below V.heap.size V w13):=B9.out.grown hg13 qo (fun i hi=>(by injection hi with hi;have:=Z0'.out;have:=ZXb.out;have:=ZXw.out;have:=Z9.out;omega))
             have P13:=zL hown13
             have Z13:Hid (w9.heap.size≤w13.heap.size):=hg13.size
             have O13:Hid (w13.ownsRow V.heap.size 25 1 (.slice A6 pp c6) pp (Ns o.locs)):=zf O9.out fun b hb=>hg13.block b (O9.out.lt b hb).2 (fun e=>zE)
             exact qA
           exact qs
         exact qs
       exact qs
     exact AllReadyH.nil
  · have ek:nf=k:=by omega
    subst ek
    obtain⟨U,eU⟩:∃U,U=wr:=⟨_,rfl⟩
    subst eU
    obtain⟨vf,evf⟩:∃u,Value.slice Av nf cv=u:=⟨_,rfl⟩
    rw[evf] at HOC HR
    have HFU:Hid ((slL frL).R (fun b=>n0≤b∧b<U.heap.size) U [vf] s.fr):=(by have:=HR.out.sl rfl;rw[zU (by rw[HNF.out];exact zQ _)] at this;exact this)
    have HPU:=HSP
    have HBU:=HB
    have HOU:=HOC
    have HQU:Hid (Blk U (w.heap.size+1) 27 #[.slice none 0 0,.slice none 0 0,.slice none 0 0,.int .i64 0,.int .i64 0,.int .i64 0,.int .u64 0]):=(HKP.out _ (by omega) (by omega)).trans HQW.out
    have HHU:Hid ((slL hdL).R (fun b=>w.heap.size+3≤b∧b<w1.heap.size) U [uh] s.hn):=(slL hdL).keep HHW.out fun b hb=>HKP.out b (by omega) (by omega)
    obtain⟨n1,en1⟩:∃x,U.heap.size=x:=⟨_,rfl⟩
    have hn1:n0≤n1:=by omega
    have hU1:n1≤U.heap.size:=by omega
    rw[en1] at HFU
    clear en1 hnr evf HR HLk HSP HB HOC HKP HN3
    go_wp2_with fail
    clear x1
    go_loopw [6] (fun i wr=>∃k:Nat,k≤no∧i= .int .i64 (k:Nat)∧Below w.heap.size w wr∧n1≤wr.heap.size∧(∀b,b<n1→b≠w.heap.size+1+1→wr.heap[b]? =U.heap[b]?)∧∃v css,Blk wr (w.heap.size+1+1) 27 #[vf,v,uh,.int .i64 s.quota,.int .i64 s.used,.int .i64 s.fin,.int .u64 (s.val:Int)]∧Rw obL 37 n1 wr v css (s.hp.take k)) (fun i _=>no-(intOf i).toNat)
    case atStart=>exact⟨0,zY _,rfl,HBU.out,by omega,fun _ _ _=>rfl,_,[],HOU.out,by simpa using Rw.nil _ _ _ _⟩
    case round=>
     obtain⟨k,hk,rfl,hbel,hnr,hkp,v,css,hoc,hrow⟩:=hrel
     obtain⟨Av,cv,rfl⟩:=hrow.shape
     have hlk:(s.hp.take k).length=k:=by rw[List.length_take,HNO.out];omega
     rw[hlk] at hoc hrow
     have HB:=zL hbel
     have HKP:=zL hkp
     have HOC:=zL hoc
     have HR:=zL hrow
     have HLk:=zL hlk
     have HN3:Hid (w.heap.size+3≤n1):=(by show _≤_;omega)
     have HSP:Hid (Blk wr w.heap.size 27 #[.slice F nf cf,.slice O no co,.slice H nh ch,.int .i64 s.quota,.int .i64 s.used,.int .i64 s.fin,.int .u64 (s.val:Int)]):=(HKP.out _ (by omega) (by omega)).trans HPU.out
     clear hbel hkp hoc hrow hlk
     have x1:=HSP.out.cell 1
     by_cases hlt:k<no
     · obtain⟨o,ho⟩:∃o,s.hp[k]? =some o:=⟨s.hp[k]'(by rw[HNO.out];exact hlt),zM _⟩
       as_aux_lemma=>
        have hsm:=HZO.out o (zT ho)
        obtain⟨a,cs,ea,hab,hc,hR⟩:=HSO.out.at ho
        have HO:=zL ho
        clear ho
        subst ea
        obtain⟨A0,c0,B0,d0,rfl,-,-,-,-,hWo,hBo,hBo2,hkk,hnn⟩:=jH hR
        clear hR
        have ca0:=(HB.out.cell (p:=a.add (k*4)) qI).trans (hc 0 _ rfl)
        have ca1:=(HB.out.cell (p:=a.add (k*4+1)) qI).trans (hc 1 _ rfl)
        rw[zV a (k*4) 1 (by omega)] at ca1
        have ca2:=(HB.out.cell (p:=a.add (k*4+2)) qI).trans (hc 2 _ rfl)
        rw[zV a (k*4) 2 (by omega)] at ca2
        have ca3:=(HB.out.cell (p:=a.add (k*4+3)) qI).trans (hc 3 _ rfl)
        rw[zV a (k*4) 3 (by omega)] at ca3
        clear hc
        go_upto_region 12 with(fail)
        refine zi fun V hV=> ?_
        have b0:Blk V wr.heap.size 37 #[.int .i64 o.kind,.int .i64 o.n,.slice A0 o.words.length c0,.slice B0 o.bytes.length d0]:=by rw[hV];exact zl rfl
        have hBV:Below wr.heap.size wr V:=by rw[hV];exact(zS _ _).alloc (zQ _) _
        have hsV:V.heap.size=wr.heap.size+1:=by rw[hV];simp
        clear hV ca0 ca1 ca2 ca3
        have hwr:=HB.out.size
        have HBwV:Hid (Below w.heap.size w V):=HB.out.trans (hBV.mono (by omega))
        have HPV:Hid (Blk V (w.heap.size+1+1) 27 #[vf,.slice Av k cv,uh,.int .i64 s.quota,.int .i64 s.used,.int .i64 s.fin,.int .u64 (s.val:Int)]):=zb HOC.out hBV (by have:=HN3.out;omega)
        have HSW:Hid (Sq numL (·<w.heap.size) w A0 o.words):=hWo
        have HSB:Hid (Byt (·<w.heap.size) w B0 o.bytes):=hBo
        have HOX:Hid ((∀x∈o.bytes,x<256)∧(∀x∈o.words,x<B64)∧I64 o.kind∧I64 o.n):=⟨hBo2,qAI hWo,hkk,hnn⟩
        have HB0:=zL b0
        have HBV:=zL hBV
        obtain⟨pp,ep⟩:∃p,o.words.length=p:=⟨_,rfl⟩
        obtain⟨qq,eq⟩:∃p,o.bytes.length=p:=⟨_,rfl⟩
        obtain⟨kk,ek⟩:∃p,o.kind=p:=⟨_,rfl⟩
        obtain⟨nn,en⟩:∃p,o.n=p:=⟨_,rfl⟩
        have hpp:pp≤100000:=by rw[←ep];exact hsm.1
        have hqq:qq≤100000:=by rw[←eq];exact hsm.2
        rw[ep,eq,ek,en] at b0 HB0
        rw[ep,eq,ek,en]
        have EP:=zL ep
        have EQ:=zL eq
        have EK:=zL ek
        have EN:=zL en
        have HMK:Hid (∀(X:World) (M:Nat) (v1 v2:Value),X.ownsRow M 25 1 v1 pp (Ns o.words)→X.ownsRow M 5 1 v2 qq (Bs o.bytes)→obL.R (fun b=>M≤b∧b<X.heap.size) X [.int .i64 kk,.int .i64 nn,v1,v2] o):=fun X M v1 v2 h1 h2=>by
         rw[←EK.out,←EN.out]
         exact⟨v1,v2,rfl,HOX.out.2.2.1,HOX.out.2.2.2,qAC h1 HOX.out.2.1,qCy h2 HOX.out.1⟩
        clear hWo hBo hkk hnn hBV ep eq ek en hsm hBo2
        have HS5:Hid (∀X,Below V.heap.size V X→X.cell? ⟨wr.heap.size,0,none⟩=some (.int .i64 kk)∧X.cell? ⟨wr.heap.size,1,none⟩=some (.int .i64 nn)∧X.cell? ⟨wr.heap.size,2,none⟩=some (.slice A0 pp c0)∧X.cell? ⟨wr.heap.size,3,none⟩=some (.slice B0 qq d0)∧X.cell? ⟨w.heap.size+1+1,1,none⟩=some (.slice Av k cv)):=fun X hX=>by
         have:=zb HB0.out hX (by omega)
         exact⟨this.cell 0,this.cell 1,this.cell 2,this.cell 3,(zb HPV.out hX (by have:=HN3.out;omega)).cell 1⟩
        clear b0 x1
        refine j6 (S:=(fun w'=>w'.cell? ⟨wr.heap.size,0,none⟩=some (.int .i64 kk)∧w'.cell? ⟨wr.heap.size,1,none⟩=some (.int .i64 nn)∧w'.cell? ⟨wr.heap.size,2,none⟩=some (.slice A0 pp c0)∧w'.cell? ⟨wr.heap.size,3,none⟩=some (.slice B0 qq d0)∧w'.cell? ⟨w.heap.size+1+1,1,none⟩=some (.slice Av k cv))) qD qD (HS5.out V.drew (zS V.heap.size V).drew) (fun hHeld=> ?_)
        simp only[initO,lastO]
        refine wpAnyH_take (i:=0) (oi:={dst:=some 58,op:=Op.fieldAddr 27 (Operand.tmp 3) 1,type:=0,pos:="ref.go:351",after:= #[],guard:=none}) (v:= ?_) rfl qD qD qD (fun _ _ _ h=>h) (Or.inl ⟨by rfl,?_⟩) qd ?_
        rotate_left
        · exact qF
        try simp only[Go.Act.put,List.setIfInBounds_toArray,List.set_cons_zero,List.set_cons_succ]
        refine wpAnyH_take (i:=1) (oi:={dst:=some 59,op:=Op.load 23 (Operand.tmp 58),type:=23,pos:="ref.go:351",after:= #[{on:=0,ground:=Ground.data}],guard:=none}) (v:= ?_) rfl qD qD qD (fun _ _ _ h=>h) (Or.inl ⟨by rfl,?_⟩) qd ?_
        rotate_left
        · exact qF
        try simp only[Go.Act.put,List.setIfInBounds_toArray,List.set_cons_zero,List.set_cons_succ]
        refine wpAnyH_take (i:=2) (oi:={dst:=some 60,op:=Op.fieldAddr 37 (Operand.tmp 7) 0,type:=0,pos:="ref.go:351",after:= #[],guard:=none}) (v:= ?_) rfl qD qD qD (fun _ _ _ h=>h) (Or.inl ⟨by rfl,?_⟩) qd ?_
        rotate_left
        · exact qF
        try simp only[Go.Act.put,List.setIfInBounds_toArray,List.set_cons_zero,List.set_cons_succ]
        refine wpAnyH_take (i:=3) (oi:={dst:=some 61,op:=Op.load 3 (Operand.tmp 60),type:=3,pos:="ref.go:351",after:= #[{on:=2,ground:=Ground.data}],guard:=none}) (v:= ?_) rfl qD qD qD (fun _ _ _ h=>h) (Or.inl ⟨by rfl,?_⟩) qd ?_
        rotate_left
        · exact qF
        try simp only[Go.Act.put,List.setIfInBounds_toArray,List.set_cons_zero,List.set_cons_succ]
        refine wpAnyH_take (i:=4) (oi:={dst:=some 62,op:=Op.fieldAddr 37 (Operand.tmp 7) 1,type:=0,pos:="ref.go:351",after:= #[],guard:=none}) (v:= ?_) rfl qD qD qD (fun _ _ _ h=>h) (Or.inl ⟨by rfl,?_⟩) qd ?_
        rotate_left
        · exact qF
        try simp only[Go.Act.put,List.setIfInBounds_toArray,List.set_cons_zero,List.set_cons_succ]
        refine wpAnyH_take (i:=5) (oi:={dst:=some 63,op:=Op.load 3 (Operand.tmp 62),type:=3,pos:="ref.go:351",after:= #[{on:=4,ground:=Ground.data}],guard:=none}) (v:= ?_) rfl qD qD qD (fun _ _ _ h=>h) (Or.inl ⟨by rfl,?_⟩) qd ?_
        rotate_left
        · exact qF
        try simp only[Go.Act.put,List.setIfInBounds_toArray,List.set_cons_zero,List.set_cons_succ]
        refine wpAnyH_take (i:=7) (oi:={dst:=some 65,op:=Op.fieldAddr 37 (Operand.tmp 7) 2,type:=0,pos:="ref.go:351",after:= #[],guard:=none}) (v:= ?_) rfl qD qD qD (fun _ _ _ h=>h) (Or.inl ⟨by rfl,?_⟩) qd ?_
        rotate_left
        · exact qF
        try simp only[Go.Act.put,List.setIfInBounds_toArray,List.set_cons_zero,List.set_cons_succ]
        refine wpAnyH_take (i:=8) (oi:={dst:=some 66,op:=Op.load 32 (Operand.tmp 65),type:=32,pos:="ref.go:351",after:= #[{on:=7,ground:=Ground.data}],guard:=none}) (v:= ?_) rfl qD qD qD (fun _ _ _ h=>h) (Or.inl ⟨by rfl,?_⟩) qd ?_
        rotate_left
        · exact qF
        try simp only[Go.Act.put,List.setIfInBounds_toArray,List.set_cons_zero,List.set_cons_succ]
        refine wpAnyH_take (i:=11) (oi:={dst:=some 69,op:=Op.fieldAddr 37 (Operand.tmp 7) 3,type:=0,pos:="ref.go:351",after:= #[],guard:=none}) (v:= ?_) rfl qD qD qD (fun _ _ _ h=>h) (Or.inl ⟨by rfl,?_⟩) qd ?_
        rotate_left
        · exact qF
        try simp only[Go.Act.put,List.setIfInBounds_toArray,List.set_cons_zero,List.set_cons_succ]
        refine wpAnyH_take (i:=12) (oi:={dst:=some 70,op:=Op.load 35 (Operand.tmp 69),type:=35,pos:="ref.go:351",after:= #[{on:=11,ground:=Ground.data}],guard:=none}) (v:= ?_) rfl qD qD qD (fun _ _ _ h=>h) (Or.inl ⟨by rfl,?_⟩) qd ?_
        rotate_left
        · exact qF
        try simp only[Go.Act.put,List.setIfInBounds_toArray,List.set_cons_zero,List.set_cons_succ]
        refine zn (fun X0 hX0=> ?_)
        have B0':Hid (Below V.heap.size V X0):=(by show Below _ _ _;rw[hX0];exact(zS V.heap.size V).drew)
        have Z0':Hid (X0.heap.size=V.heap.size):=(by show _=_;rw[hX0];rfl)
        have hHeld0:=HS5.out X0 B0'.out
        clear hX0
        refine wpAnyH_ready (rs:=[6,10]) qD (by simp) ?_
        refine AllReadyH.cons (o:=_) rfl (fun K hK=> ?_) ?_
        · skip
          go_simp
          refine hK.out _ _ ?_ (fun hHeldXw=> ?_)
          · exact q6
          clear hK K
          try simp only[Go.Act.put,List.setIfInBounds_toArray,List.set_cons_zero,List.set_cons_succ]
          refine zn (fun Xw hXw=> ?_)
          have BXw:Hid (Below V.heap.size V Xw):=(by show Below _ _ _;rw[hXw];exact B0'.out.alloc q9 _)
          have KXw:Hid (Blk Xw X0.heap.size 25 #[]):=zD
          have ZXw:Hid (Xw.heap.size=X0.heap.size+1):=(by show _=_;rw[hXw];simp)
          clear hXw
          refine wpAnyH_ready (rs:=[9,10]) qD (by simp) ?_
          refine AllReadyH.cons (o:=_) rfl (fun K hK=> ?_) ?_
          · skip
            refine zz _ (by rfl) (.tmp 64) (.tmp 66) (by rfl) V.heap.size X0.heap.size (by rfl) KXw.out (by have:=Z0'.out;have:=ZXw.out;omega) A0 pp c0 o.words (by rfl) EP.out (·<w.heap.size) (HSW.out.keep fun b hb=>(BXw.out.block b qc).trans (HBwV.out.block b hb)) (by omega) ?_
            intro A6 c6 w9 hown9 hg9 hbk9
            have B9:Hid (Below V.heap.size V w9):=BXw.out.grown hg9 qg (fun i hi=>(by injection hi with hi;have:=Z0'.out;have:=ZXw.out;omega))
            have O9:=zL hown9
            have M9:=zL hbk9
            have Z9:Hid (Xw.heap.size≤w9.heap.size):=hg9.size
            clear hown9 hg9 hbk9
            refine hK.out _ _ ?_ (fun hHeld9=> ?_)
            · exact HS5.out _ B9.out
            clear hK K
            try simp only[Go.Act.put,List.setIfInBounds_toArray,List.set_cons_zero,List.set_cons_succ]
            refine wpAnyH_ready (rs:=[10]) qD (by simp) ?_
            refine AllReadyH.cons (o:=_) rfl (fun K hK=> ?_) ?_
            · skip
              go_simp
              refine hK.out _ _ ?_ (fun hHeldXb=> ?_)
              · exact HS5.out _ (B9.out.alloc zA _)
              clear hK K
              try simp only[Go.Act.put,List.setIfInBounds_toArray,List.set_cons_zero,List.set_cons_succ]
              refine zn (fun Xb hXb=> ?_)
              have BXb:Hid (Below V.heap.size V Xb):=(by show Below _ _ _;rw[hXb];exact B9.out.alloc zA _)
              have KXb:Hid (Blk Xb w9.heap.size 5 #[]):=qk
              have ZXb:Hid (Xb.heap.size=w9.heap.size+1):=zJ
              have OXb:Hid (Xb.ownsRow V.heap.size 25 1 (.slice A6 pp c6) pp (Ns o.words)):=zf O9.out fun b hb=>(by rw[hXb];exact zd _ _ _ (O9.out.lt b hb).2)
              clear hXb
              refine wpAnyH_ready (rs:=[13]) qD (by simp) ?_
              refine AllReadyH.cons (o:=_) rfl (fun K hK=> ?_) ?_
              · skip
                refine qAE _ (by rfl) (.tmp 68) (.tmp 70) (by rfl) V.heap.size w9.heap.size (by rfl) KXb.out (by have:=Z0'.out;have:=ZXw.out;have:=Z9.out;have:=ZXb.out;omega) B0 qq d0 o.bytes (by rfl) EQ.out (·<w.heap.size) (HSB.out.keep fun b hb=>(BXb.out.block b qc).trans (HBwV.out.block b hb)) (by omega) ?_
                intro B6 d6 w13 hown13 hg13 hbk13
                have B13:Hid (Below V.heap.size V w13):=BXb.out.grown hg13 qp (fun i hi=>(by injection hi with hi;have:=Z0'.out;have:=ZXw.out;have:=Z9.out;have:=ZXb.out;omega))
                have P13:=zL hown13
                have Z13:Hid (Xb.heap.size≤w13.heap.size):=hg13.size
                have O13:Hid (w13.ownsRow V.heap.size 25 1 (.slice A6 pp c6) pp (Ns o.words)):=zf OXb.out fun b hb=>hg13.block b (OXb.out.lt b hb).2 (fun e=>zG)
                exact qB
              exact qs
            exact qs
          refine AllReadyH.cons (o:=_) rfl (fun K hK=> ?_) ?_
          · skip
            go_simp
            refine hK.out _ _ ?_ (fun hHeldXb=> ?_)
            · exact HS5.out _ (BXw.out.alloc qg _)
            clear hK K
            try simp only[Go.Act.put,List.setIfInBounds_toArray,List.set_cons_zero,List.set_cons_succ]
            refine zn (fun Xb hXb=> ?_)
            have BXb:Hid (Below V.heap.size V Xb):=(by show Below _ _ _;rw[hXb];exact BXw.out.alloc qg _)
            have KXb:Hid (Blk Xb Xw.heap.size 5 #[]):=qk
            have ZXb:Hid (Xb.heap.size=Xw.heap.size+1):=zJ
            have KwXb:Hid (Blk Xb X0.heap.size 25 #[]):=(by show Blk _ _ _ _;rw[hXb];exact zc KXw.out)
            clear hXb
            refine wpAnyH_ready (rs:=[9]) qD (by simp) ?_
            refine AllReadyH.cons (o:=_) rfl (fun K hK=> ?_) ?_
            · skip
              refine zz _ (by rfl) (.tmp 64) (.tmp 66) (by rfl) V.heap.size X0.heap.size (by rfl) KwXb.out q8 A0 pp c0 o.words (by rfl) EP.out (·<w.heap.size) (HSW.out.keep fun b hb=>(BXb.out.block b qc).trans (HBwV.out.block b hb)) (by omega) ?_
              intro A6 c6 w9 hown9 hg9 hbk9
              have B9:Hid (Below V.heap.size V w9):=BXb.out.grown hg9 q8 (fun i hi=>(by injection hi with hi;have:=Z0'.out;have:=ZXw.out;have:=ZXb.out;omega))
              have O9:=zL hown9
              have M9:=zL hbk9
              have Z9:Hid (Xb.heap.size≤w9.heap.size):=hg9.size
              have Kb9:Hid (Blk w9 Xw.heap.size 5 #[]):=(hg9.block _ KXb.out.lt (fun e=>(by injection e with e;have:=Z0'.out;have:=ZXw.out;have:=ZXb.out;omega))).trans KXb.out
              clear hown9 hg9 hbk9
              refine hK.out _ _ ?_ (fun hHeld9=> ?_)
              · exact HS5.out _ B9.out
              clear hK K
              try simp only[Go.Act.put,List.setIfInBounds_toArray,List.set_cons_zero,List.set_cons_succ]
              refine wpAnyH_ready (rs:=[13]) qD (by simp) ?_
              refine AllReadyH.cons (o:=_) rfl (fun K hK=> ?_) ?_
              · skip
                refine qAE _ (by rfl) (.tmp 68) (.tmp 70) (by rfl) V.heap.size Xw.heap.size (by rfl) Kb9.out (by have:=Z0'.out;have:=ZXw.out;have:=ZXb.out;have:=Z9.out;omega) B0 qq d0 o.bytes (by rfl) EQ.out (·<w.heap.size) (HSB.out.keep fun b hb=>(B9.out.block b qc).trans (HBwV.out.block b hb)) (by omega) ?_
                intro B6 d6 w13 hown13 hg13 hbk13
                have B13:Hid (Below V.heap.size V w13):=B9.out.grown hg13 qr (fun i hi=>(by injection hi with hi;have:=Z0'.out;have:=ZXw.out;have:=ZXb.out;have:=Z9.out;omega))
                have P13:=zL hown13
                have Z13:Hid (w9.heap.size≤w13.heap.size):=hg13.size
                have O13:Hid (w13.ownsRow V.heap.size 25 1 (.slice A6 pp c6) pp (Ns o.words)):=zf O9.out fun b hb=>hg13.block b (O9.out.lt b hb).2 (fun e=>zH)
                exact qB
              exact qs
            exact qs
          exact qs
        refine AllReadyH.cons (o:=_) rfl (fun K hK=> ?_) ?_
        · skip
          go_simp
          refine hK.out _ _ ?_ (fun hHeldXb=> ?_)
          · exact q6
          clear hK K
          try simp only[Go.Act.put,List.setIfInBounds_toArray,List.set_cons_zero,List.set_cons_succ]
          refine zn (fun Xb hXb=> ?_)
          have BXb:Hid (Below V.heap.size V Xb):=(by show Below _ _ _;rw[hXb];exact B0'.out.alloc q9 _)
          have KXb:Hid (Blk Xb X0.heap.size 5 #[]):=qk
          have ZXb:Hid (Xb.heap.size=X0.heap.size+1):=zJ
          clear hXb
          refine wpAnyH_ready (rs:=[6]) qD (by simp) ?_
          refine AllReadyH.cons (o:=_) rfl (fun K hK=> ?_) ?_
          · skip
            go_simp
            refine hK.out _ _ ?_ (fun hHeldXw=> ?_)
            · exact HS5.out _ (BXb.out.alloc (by have:=Z0'.out;have:=ZXb.out;omega) _)
            clear hK K
            try simp only[Go.Act.put,List.setIfInBounds_toArray,List.set_cons_zero,List.set_cons_succ]
            refine zn (fun Xw hXw=> ?_)
            have BXw:Hid (Below V.heap.size V Xw):=(by show Below _ _ _;rw[hXw];exact BXb.out.alloc (by have:=Z0'.out;have:=ZXb.out;omega) _)
            have KXw:Hid (Blk Xw Xb.heap.size 25 #[]):=zD
            have ZXw:Hid (Xw.heap.size=Xb.heap.size+1):=(by show _=_;rw[hXw];simp)
            have KbXw:Hid (Blk Xw X0.heap.size 5 #[]):=(by show Blk _ _ _ _;rw[hXw];exact zc KXb.out)
            clear hXw
            refine wpAnyH_ready (rs:=[9]) qD (by simp) ?_
            refine AllReadyH.cons (o:=_) rfl (fun K hK=> ?_) ?_
            · skip
              refine zz _ (by rfl) (.tmp 64) (.tmp 66) (by rfl) V.heap.size Xb.heap.size (by rfl) KXw.out q7 A0 pp c0 o.words (by rfl) EP.out (·<w.heap.size) (HSW.out.keep fun b hb=>(BXw.out.block b qc).trans (HBwV.out.block b hb)) (by omega) ?_
              intro A6 c6 w9 hown9 hg9 hbk9
              have B9:Hid (Below V.heap.size V w9):=BXw.out.grown hg9 q7 (fun i hi=>(by injection hi with hi;have:=Z0'.out;have:=ZXb.out;have:=ZXw.out;omega))
              have O9:=zL hown9
              have M9:=zL hbk9
              have Z9:Hid (Xw.heap.size≤w9.heap.size):=hg9.size
              have Kb9:Hid (Blk w9 X0.heap.size 5 #[]):=(hg9.block _ KbXw.out.lt (fun e=>(by injection e with e;have:=Z0'.out;have:=ZXb.out;have:=ZXw.out;omega))).trans KbXw.out
              clear hown9 hg9 hbk9
              refine hK.out _ _ ?_ (fun hHeld9=> ?_)
              · exact HS5.out _ B9.out
              clear hK K
              try simp only[Go.Act.put,List.setIfInBounds_toArray,List.set_cons_zero,List.set_cons_succ]
              refine wpAnyH_ready (rs:=[13]) qD (by simp) ?_
              refine AllReadyH.cons (o:=_) rfl (fun K hK=> ?_) ?_
              · skip
                refine qAE _ (by rfl) (.tmp 68) (.tmp 70) (by rfl) V.heap.size X0.heap.size (by rfl) Kb9.out (by have:=Z0'.out;have:=ZXb.out;have:=ZXw.out;have:=Z9.out;omega) B0 qq d0 o.bytes (by rfl) EQ.out (·<w.heap.size) (HSB.out.keep fun b hb=>(B9.out.block b qc).trans (HBwV.out.block b hb)) (by omega) ?_
                intro B6 d6 w13 hown13 hg13 hbk13
                have B13:Hid (Below V.heap.size V w13):=B9.out.grown hg13 qo (fun i hi=>(by injection hi with hi;have:=Z0'.out;have:=ZXb.out;have:=ZXw.out;have:=Z9.out;omega))
                have P13:=zL hown13
                have Z13:Hid (w9.heap.size≤w13.heap.size):=hg13.size
                have O13:Hid (w13.ownsRow V.heap.size 25 1 (.slice A6 pp c6) pp (Ns o.words)):=zf O9.out fun b hb=>hg13.block b (O9.out.lt b hb).2 (fun e=>zE)
                exact qB
              exact qs
            exact qs
          exact qs
        exact AllReadyH.nil
     · have ek:no=k:=by omega
       subst ek
       have HOS:Hid ((slL obL).R (fun b=>n1≤b∧b<wr.heap.size) wr [.slice Av no cv] s.hp):=(by have:=HR.out.sl rfl;rw[zU (by rw[HNO.out];exact zQ _)] at this;exact this)
       have HFS:Hid ((slL frL).R (fun b=>n0≤b∧b<n1) wr [vf] s.fr):=(slL frL).keep HFU.out fun b hb=>HKP.out b (by omega) (by omega)
       have HHS:Hid ((slL hdL).R (fun b=>w.heap.size+3≤b∧b<w1.heap.size) wr [uh] s.hn):=(slL hdL).keep HHU.out fun b hb=>HKP.out b (by omega) (by omega)
       have HQR:Hid (Blk wr (w.heap.size+1) 27 #[.slice none 0 0,.slice none 0 0,.slice none 0 0,.int .i64 0,.int .i64 0,.int .i64 0,.int .u64 0]):=(HKP.out _ (by omega) (by omega)).trans HQU.out
       obtain⟨A2,n2,c2,rfl⟩:∃A n c,vf= .slice A n c:=(by obtain⟨A,c,e,-⟩:=HFS.out;simp at e;exact⟨A,_,c,e⟩)
       obtain⟨A3,n3,c3,rfl⟩:∃A n c,uh= .slice A n c:=(by obtain⟨A,c,e,-⟩:=HHS.out;simp at e;exact⟨A,_,c,e⟩)
       have o0:=HOC.out.cell 0
       have r0:=HQR.out.cell 0
       have f0:=HQR.out.frozen 0
       have o1:=HOC.out.cell 1
       have r1:=HQR.out.cell 1
       have f1:=HQR.out.frozen 1
       have o2:=HOC.out.cell 2
       have r2:=HQR.out.cell 2
       have f2:=HQR.out.frozen 2
       have o3:=HOC.out.cell 3
       have r3:=HQR.out.cell 3
       have f3:=HQR.out.frozen 3
       have o4:=HOC.out.cell 4
       have r4:=HQR.out.cell 4
       have f4:=HQR.out.frozen 4
       have o5:=HOC.out.cell 5
       have r5:=HQR.out.cell 5
       have f5:=HQR.out.frozen 5
       have o6:=HOC.out.cell 6
       have r6:=HQR.out.cell 6
       have f6:=HQR.out.frozen 6
       go_wp2_with fail
       refine bodyPost_ret (v:= .agg #[.slice A2 n2 c2,.slice Av no cv,.slice A3 n3 c3,.int .i64 s.quota,.int .i64 s.used,.int .i64 s.fin,.int .u64 (s.val:Int)]) (by simp[results,Try.results6,go_sem,o0,o1,o2,o3,o4,o5,o6,r0,r1,r2,r3,r4,r5,r6]) rfl ⟨[_,_,_,_,_,_,_],rfl,?_,?_⟩
       · refine stL.wide (S:=fun b=>w.heap.size+3≤b∧b<wr.heap.size) (stL.keep (w:=wr) ?_ fun b hb=> ?_) fun b hb=>⟨by omega,by simp[World.setCell];omega⟩
         · exact⟨_,_,_,rfl,(slL frL).wide HFS.out fun b hb=>⟨by omega,by omega⟩,(slL obL).wide HOS.out fun b hb=>⟨by omega,by omega⟩,(slL hdL).wide HHS.out fun b hb=>⟨by omega,by omega⟩,HQ.out⟩
         · repeat(first|with_reducible exact rfl|(with_reducible refine(zX _ _ _ _ ?_).trans ?_;(show b≠w.heap.size+1;omega)))
       · repeat(first|with_reducible exact HB.out|with_reducible refine Below.setCell ?_ (by show w.heap.size≤w.heap.size+1;omega) _)
end Go.Proofs.Ytconajaecpgjgaa
