/-
Sc5 Gb Gbs Bn Gb2 Lsg
-/
import Derived.Test.YtconajaecpgjgaaProg
import Derived.Test.YtconajaecpgjgaaQ01
import Derived.Test.YtconajaecpgjgaaQ02
import Derived.Test.YtconajaecpgjgaaQ03
import Derived.Test.YtconajaecpgjgaaQ05
import Derived.Test.YtconajaecpgjgaaQ10
import Derived.Deep.DeepCutAuto
import Derived.Deep.RegionLaw
import Derived.Deep.RegionHeld3
set_option linter.unusedSimpArgs false
set_option linter.unusedVariables false
set_option maxRecDepth 100000
set_option maxHeartbeats 4000000
namespace Go.Proofs.Ytconajaecpgjgaa
open Go.RowKit
theorem qDF (cs:List Value) (x:Mod) (w:World) (h:modL.R (·<w.heap.size) w cs x):Calls Try.prog 24 #[vAgg cs] w (Tells (mainB x) w):=by
 have TE:Hid (∀w1,Below w.heap.size w w1→Calls Try.prog 29 #[vAgg cs] w1 (Errs (checkN x) w1)):=fun w1 hb=>qCx cs x w1 (qB2 h hb)
 obtain⟨_,_,_,_,_,rfl,⟨A0,d0,e0,-⟩,⟨A1,d1,e1,l1,m1,s1⟩,⟨A2,d2,e2,-⟩,⟨A3,d3,e3,-⟩,⟨A4,d4,e4,-⟩⟩:=h
 simp only[List.cons.injEq,and_true] at e0 e1 e2 e3 e4
 subst e0 e1 e2 e3 e4
 obtain⟨n1,h1⟩:∃n,x.funcs.length=n:=⟨_,rfl⟩
 rw[h1] at TE⊢
 generalize x.recs.length=n0 at*
 generalize x.imps.length=n2 at*
 generalize x.ints.length=n3 at*
 generalize x.texts.length=n4 at*
 have TE2:Hid (∀w1,Below w.heap.size w w1→Calls Try.prog 29 #[.agg #[.slice A0 n0 d0,.slice A1 n1 d1,.slice A2 n2 d2,.slice A3 n3 d3,.slice A4 n4 d4]] w1 (Errs (checkN x) w1)):=TE.out
 clear TE
 show Calls Try.prog 24 #[.agg #[.slice A0 n0 d0,.slice A1 n1 d1,.slice A2 n2 d2,.slice A3 n3 d3,.slice A4 n4 d4]] w (Tells (mainB x) w)
 have HB0:Hid (∀o:Obj,Below w.heap.size w (w.alloc o)):=fun o=>(zS _ _).alloc (zQ _) _
 have HC0:Hid (C5 w.heap.size (.slice A0 n0 d0) (.slice A1 n1 d1) (.slice A2 n2 d2) (.slice A3 n3 d3) (.slice A4 n4 d4) (w.alloc (.cells #[.slice A0 n0 d0,.slice A1 n1 d1,.slice A2 n2 d2,.slice A3 n3 d3,.slice A4 n4 d4] 53))):=by show C5 _ _ _ _ _ _ _;simp[C5,go_sem]
 by_cases hc:checkN x=0
 rotate_left
 · have HN:=zL (qCi hc)
   have b:(checkN x != 0)=true:=by simpa using hc
   generalize mainB x=mb at*
   generalize checkN x=cn at*
   clear hc s1 h1
   go_enter Try.func24,Try.ntmps24
   go_wp2_with (first
    |(go_at_call 29
      refine(TE2.out _ (HB0.out _)).mono ?_
      rintro e w1 ⟨rfl,hb1⟩
      have HB1:=zL ((HB0.out _).trans (hb1.mono (by simp)))
      clear hb1))
   go_ret
   exact⟨by rw[HN.out];rfl,HB1.out⟩
 · have hF:=qAl.1 (qB9 hc)
   have hf1:=hF.f1
   have hf8:=hF.f8
   obtain⟨f,fs,hfs⟩:∃f fs,x.funcs=f::fs:=by
    cases hx:x.funcs with
    |nil=>rw[hx] at hf1;simp at hf1
    |cons f fs=>exact⟨f,fs,rfl⟩
   have HN:=zL (qCh hc hfs)
   rw[hc] at TE2
   obtain⟨a,cs,ea,hab,hcl,hR⟩:=s1.at (k:=0) (x:=f) (by rw[hfs];rfl)
   subst ea
   obtain⟨p0,p1,p2,rfl,-,-,⟨P0,c0,e4,-⟩,⟨P1,c1,e5,-⟩,⟨P2,c2,e6,-⟩⟩:=hR
   simp only[List.cons.injEq,and_true] at e4 e5 e6
   subst e4 e5 e6
   have HCL:Hid (∀w1,Below w.heap.size w w1→w1.cell? a=some (.slice P0 f.args.length c0)∧w1.cell? ⟨a.block,a.off+1,none⟩=some (.int .i64 f.ret.1)∧w1.cell? ⟨a.block,a.off+2,none⟩=some (.int .i64 f.ret.2)∧w1.cell? ⟨a.block,a.off+3,none⟩=some (.slice P1 f.locs.length c1)∧w1.cell? ⟨a.block,a.off+4,none⟩=some (.slice P2 f.code.length c2)):=fun w1 hb=>by
    have k0:=hcl 0 _ rfl
    have k1:=hcl 1 _ rfl
    have k2:=hcl 2 _ rfl
    have k3:=hcl 3 _ rfl
    have k4:=hcl 4 _ rfl
    simp only[Nat.zero_mul,Nat.zero_add] at k0 k1 k2 k3 k4
    have e0:a.add 0=a:=by simp[Addr.add]
    have en:∀i,0<i→a.add i=⟨a.block,a.off+i,none⟩:=fun i hi=>by
     have h:i≠0:=by omega
     simp[Addr.add,h]
    rw[e0] at k0
    rw[en _ (by omega)] at k1 k2 k3 k4
    exact⟨(hb.cell (p:=a) hab).trans k0,(hb.cell (p:=⟨a.block,a.off+1,none⟩) hab).trans k1,(hb.cell (p:=⟨a.block,a.off+2,none⟩) hab).trans k2,(hb.cell (p:=⟨a.block,a.off+3,none⟩) hab).trans k3,(hb.cell (p:=⟨a.block,a.off+4,none⟩) hab).trans k4⟩
   have hn1:0<n1:=by rw[←h1];exact hf1
   have hn1':(0:Int)<(n1:Int):=by omega
   clear hc hF hf1 hf8 hfs h1 s1 hcl l1 m1
   generalize mainB x=mb at*
   generalize f.args.length=u0 at*
   generalize f.locs.length=u1 at*
   generalize f.code.length=u2 at*
   generalize f.ret.1=k1 at*
   generalize f.ret.2=k2 at*
   rcases Nat.eq_zero_or_pos u0 with hu|hu
   · subst hu
     go_enter Try.func24,Try.ntmps24
     go_wp2_with (first
      |(go_at_call 29
        refine(TE2.out _ (HB0.out _)).mono ?_
        rintro e w1 ⟨rfl,hb1⟩
        have HB1:=zL ((HB0.out _).trans (hb1.mono (by simp)))
        obtain⟨x0,x1,x2,x3,x4⟩:=HC0.out.below hb1 (by simp)
        obtain⟨y0,y1,y2,y3,y4⟩:=HCL.out _ HB1.out
        clear hb1))
     go_ret
     exact⟨by rw[HN.out];simp;rfl,HB1.out.alloc HB1.out.size _⟩
   · have hd:((u0:Int)==0)=false:=by simp;omega
     have hd2:(u0==0)=false:=by simp;omega
     go_enter Try.func24,Try.ntmps24
     go_wp2_with (first
      |(go_at_call 29
        refine(TE2.out _ (HB0.out _)).mono ?_
        rintro e w1 ⟨rfl,hb1⟩
        have HB1:=zL ((HB0.out _).trans (hb1.mono (by simp)))
        obtain⟨x0,x1,x2,x3,x4⟩:=HC0.out.below hb1 (by simp)
        obtain⟨y0,y1,y2,y3,y4⟩:=HCL.out _ HB1.out
        clear hb1))
     go_ret
     exact⟨by rw[HN.out,decide_eq_false (show ¬u0=0 by omega)];rfl,HB1.out.alloc HB1.out.size _⟩
theorem qC2 (m n:Int) (w:World):Calls Try.prog 25 #[.int .i64 m,.int .i64 n] w fun e w'=>e= .returned (.bool (decide (0≤n∧n≤m)))∧w'=w:=by
 by_cases h0:0≤n
 all_goals by_cases h1:n≤m
 all_goals
  go_enter Try.func25,Try.ntmps25
  go_wp2_with fail
  go_ret
  exact⟨by simp[h0,h1],rfl⟩
theorem qA6 (n:Nat) (hn:n≤1000) (w:World):(Instr.makeSlice 32 (.int .i64 (n:Nat)) (.int .i64 (n:Nat))).run Try.prog w= .ok (.slice (some ⟨w.heap.size,0,none⟩) n n) (w.alloc (.cells (madeCells #[.int .u64 0] n) 25)):=by
 obtain⟨i,hi,hz,hs,hb⟩:=info_parts qAh
 have:=run_make (P:=Try.prog) w 32 25 i _ Try.underlying32 hi hz .i64 .i64 (n:Int) (n:Int) (by omega) (Int.le_refl _) (by rw[hb];omega) (by omega)
 rw[hs,Int.toNat_natCast,Nat.mul_one] at this
 exact this
def ST0:List Value:=[.slice none 0 0,.slice none 0 0,.slice none 0 0,.int .i64 0,.int .i64 0,.int .i64 0,.int .u64 0]
def beginS (n:Nat) (q:Int):Stt:=⟨[⟨0,0,List.replicate n 0,[]⟩],[],[],q,0,0,0⟩
def tA:Array Value:= #[.int .i64 1,.int .i64 0]
def iA:Array Value:= #[.int .i64 26,.int .i64 0,.int .i64 0]
def bm:Nat→Nat→Mod
 |0,k=>⟨List.replicate k [],[fn0],[],[],[]⟩
 |1,k=>⟨[],List.replicate (k+1) fn0,[],[],[]⟩
 |2,k=>⟨[],[fn0],List.replicate k ⟨[],(1,0)⟩,[],[]⟩
 |3,k=>⟨[],[fn0],[],List.range k,[]⟩
 |4,k=>⟨[],[fn0],[],[],List.replicate k [97]⟩
 |5,k=>⟨[],[⟨[],(1,0),List.replicate k (1,0),[(26,0,0)]⟩],[],[],[]⟩
 |_,k=>⟨[],[⟨[],(1,0),[],(26,0,0)::List.replicate k (5,0,0)⟩],[],[],[]⟩
def bt:Nat→Nat
 |0=>8
 |1=>7
 |2=>8
 |3=>16
 |4=>16
 |5=>8
 |_=>63
def Bst (N ty k b0 g ty2:Nat) (mk:Value→Array Value) (w W0 wr:World) (css:List (List Value)) (v:Value):Prop:=
 Below N w wr∧N+4≤wr.heap.size∧wr.ownsRow (N+1) ty k v css.length css.flatten∧(∀b,v.ownBlock=some b→b=b0∨N+4≤b)∧(∀b,b<N+4→b≠b0→b≠g→wr.heap[b]? =W0.heap[b]?)∧Blk wr g ty2 (mk v)
theorem Bst.blk {N ty k b0 g ty2:Nat} {mk:Value→Array Value} {w W0 wr w1 w2:World} {css:List (List Value)} {v:Value} (h:Bst N ty k b0 g ty2 mk w W0 wr css v) (hb:b0≠g) (hg:g<N+4) (h1:Below wr.heap.size wr w1) (hgr:w1.grownBy w2 v.ownBlock):Blk w2 g ty2 (mk v):=by
 obtain⟨a1,a2,a3,a4,a5,a6⟩:=h
 refine((hgr.block g (zP a6.lt h1.size) fun e=> ?_).trans (h1.block g a6.lt)).trans a6
 rcases a4 g e.symm with h|h<;>omega
theorem Bst.step {N ty k b0 g ty2 i:Nat} {mk:Value→Array Value} {w W0 wr w1 w2:World} {css:List (List Value)} {ys:List Value} {v v':Value} (h:Bst N ty k b0 g ty2 mk w W0 wr css v) (hb:b0≠g) (hb0:N≤b0) (hg0:N≤g) (hg:g<N+4) (h1:Below wr.heap.size wr w1)
 (hown:w2.ownsRow (N+1) ty k v' (css.length+1) (css.flatten++ys)) (hgr:w1.grownBy w2 v.ownBlock) (h5:v'.ownBlock=v.ownBlock∨v'.ownBlock=some w1.heap.size) (hset:(mk v).setIfInBounds i v'=mk v'):
 Bst N ty k b0 g ty2 mk w W0 (w2.setCell ⟨g,i,none⟩ v') (css++[ys]) v':=by
 have hblk:=h.blk hb hg h1 hgr
 obtain⟨a1,a2,a3,a4,a5,a6⟩:=h
 have s1:=h1.size
 have s2:=hgr.size
 have hv:∀b,v'.ownBlock=some b→b=b0∨N+4≤b:=by
  intro b e
  rcases h5 with h|h
  · exact a4 b (h▸e)
  · rw[h] at e
    injection e with e
    omega
 have hrow:∀j,v.ownBlock=some j→N≤j:=fun j e=>by rcases a4 j e with h|h<;>omega
 refine⟨((a1.trans (h1.mono (by omega))).trans (qBj hgr (by omega) hrow)).setCell (p:=⟨g,i,none⟩) hg0 _,by have:=(qBY (qAv g w2) i v').size;omega,?_,hv,?_,?_⟩
 · have:=hown.kept (row:=some g) (qBY (qAv g w2) i v') (.inr fun e=>by rcases hv g e with h|h<;>omega)
   simpa using this
 · intro b h2 h3 h4
   rw[zX _ _ _ _ (by simpa using h4),hgr.block b (by omega) (fun e=>by rcases a4 b e.symm with h|h<;>omega),h1.block b (by omega)]
   exact a5 b h2 h3 h4
 · rw[←hset]
   exact hblk.set i v'
theorem qDG {S:Nat→Prop} {w:World} {b n:Nat} (h:Blk w b 25 (madeCells #[.int .u64 0] n)) (hn:n≤1000) (hS:S b):wrdL.R S w [.slice (some ⟨b,0,none⟩) n n] (List.replicate n 0):=by
 refine⟨some ⟨b,0,none⟩,n,by simp,by simp,by unfold maxLen;omega,fun _=>⟨_,rfl,hS,fun j x hx=>⟨[.int .u64 (x:Int)],fun i u hu=> ?_,rfl,?_⟩⟩⟩
 · obtain⟨hj,e⟩:=zR.1 hx
   rw[List.length_replicate] at hj
   simp at e
   subst e
   match i,hu with
   |0,hu=>
    simp at hu
    subst hu
    rw[add_zero,show j*numL.k+0=j by show j*1+0=j;omega,h.cell]
    simp[madeCells,hj,Nat.mod_one]
   |i+1,hu=>simp at hu
 · obtain⟨hj,e⟩:=zR.1 hx
   simp at e
   subst e
   unfold B64
   omega
theorem qCC {w:World} {S1 X n:Nat} {q:Int} (h1:Blk w S1 25 (madeCells #[.int .u64 0] n)) (h2:Blk w X 34 #[.int .i64 0,.int .i64 0,.slice (some ⟨S1,0,none⟩) n n,.slice none 0 0]) (hn:n≤1000) (hq:I64 q):
 stL.R (·<w.heap.size) w [.slice (some ⟨X,0,none⟩) 1 1,.slice none 0 0,.slice none 0 0,.int .i64 q,.int .i64 0,.int .i64 0,.int .u64 0] (beginS n q):=
 have z:I64 0:=⟨by decide,by decide⟩
 ⟨_,_,_,rfl,qA7 (L:=frL) (x:=⟨0,0,List.replicate n 0,[]⟩) h2 h2.lt ⟨_,_,rfl,z,z,qDG h1 hn h1.lt,jx _ _ _⟩,jx _ _ _,jx _ _ _,hq,z,z,by show(0:Nat)<B64;unfold B64;omega⟩
theorem run_fr1 (w:World) (b n:Nat):(Instr.build 34 #[(2,.slice (some ⟨b,0,none⟩) n n)]).run Try.prog w= .ok (.agg #[.int .i64 0,.int .i64 0,.slice (some ⟨b,0,none⟩) n n,.slice none 0 0]) w:=by kernel_rfl
theorem run_st1 (w:World) (b:Nat) (q:Int):(Instr.build 27 #[(0,.slice (some ⟨b,0,none⟩) 1 1),(3,.int .i64 q),(5,.int .i64 0)]).run Try.prog w= .ok (.agg #[.slice (some ⟨b,0,none⟩) 1 1,.slice none 0 0,.slice none 0 0,.int .i64 q,.int .i64 0,.int .i64 0,.int .u64 0]) w:=by kernel_rfl
theorem qB4 {w:World} {A0 A1 A2 A3 A4:Option Addr} {n0 n1 n2 n3 n4 d0 d1 d2 d3 d4:Nat} {m:Mod} {fn:Fn} {fs:List Fn} (h:modL.R (·<w.heap.size) w [.slice A0 n0 d0,.slice A1 n1 d1,.slice A2 n2 d2,.slice A3 n3 d3,.slice A4 n4 d4] m) (hf:m.funcs=fn::fs):
 ∃a P c,A1=some a∧0<n1∧a.block<w.heap.size∧w.cell? ⟨a.block,a.off+3,none⟩=some (.slice P fn.locs.length c):=by
 obtain⟨_,_,_,_,_,ex,-,⟨A',d',ex1,-,-,s1⟩,-⟩:=h
 simp only[List.cons.injEq,and_true] at ex
 obtain⟨-,rfl,-⟩:=ex
 simp only[List.cons.injEq,Value.slice.injEq,and_true] at ex1
 obtain⟨rfl,e2,rfl⟩:=ex1
 have h0:m.funcs[0]? =some fn:=by rw[hf];rfl
 obtain⟨a,cs,e,hs,hc,p0,p1,p2,rfl,-,-,⟨P0,c0,e4,-⟩,⟨P1,c1,e5,-⟩,⟨P2,c2,e6,-⟩⟩:=s1.at h0
 simp only[List.cons.injEq,and_true] at e4 e5 e6
 subst e4 e5 e6
 have k3:=hc 3 _ rfl
 rw[show 0*fnL.k+3=3 from rfl,show a.add 3=⟨a.block,a.off+3,none⟩ by simp[Addr.add]] at k3
 exact⟨a,P1,c1,e,by rw[e2,hf];simp,hs,k3⟩
theorem qA3 {w v:World} {p:Addr} {u:Value} (h:w.cell? p=some u) (hb:Below w.heap.size w v):v.cell? p=some u:=(hb.cell (zW w _ h)).trans h
theorem qC0 (cs:List Value) (m:Mod) (fn:Fn) (fs:List Fn) (q:Int) (w:World) (h:modL.R (·<w.heap.size) w cs m) (hf:m.funcs=fn::fs) (hn:fn.locs.length≤1000) (hq:I64 q) (hm:mainB m=true) (hq0:0≤q∧q≤65536):
 Calls Try.prog 10 #[vAgg cs,.int .i64 q] w fun e w'=>∃cs',e= .returned (.tuple #[vAgg cs',.int .i64 0])∧stL.R (·<w'.heap.size) w' cs' (beginS fn.locs.length q)∧Below w.heap.size w w':=by
 obtain⟨A0,A1,A2,A3,A4,n0,n1,n2,n3,n4,d0,d1,d2,d3,d4,rfl⟩:=qCg h
 obtain⟨a,P,c,rfl,hn1,hab,k3⟩:=qB4 h hf
 have TM:Hid (∀w1,Below w.heap.size w w1→Calls Try.prog 24 #[.agg #[.slice A0 n0 d0,.slice (some a) n1 d1,.slice A2 n2 d2,.slice A3 n3 d3,.slice A4 n4 d4]] w1 (Tells true w1)):=fun w1 hb=>by
  have:=qDF _ m w1 (qB2 h hb)
  rwa [hm] at this
 have TU:Hid (∀w1,Calls Try.prog 25 #[.int .i64 65536,.int .i64 q] w1 fun e w'=>e= .returned (.bool true)∧w'=w1):=fun w1=>by
  have:=qC2 65536 q w1
  rwa [decide_eq_true hq0] at this
 obtain⟨nl,hnl⟩:∃x,fn.locs.length=x:=⟨_,rfl⟩
 rw[hnl] at k3 hn⊢
 have M1:=qA6 nl hn
 have M2:=run_fr1
 have M3:=run_st1
 have hn1i:(0:Int)<(n1:Int):=by omega
 have HK3:=zL k3
 have HQ:=zL hq
 show Calls Try.prog 10 #[.agg #[.slice A0 n0 d0,.slice (some a) n1 d1,.slice A2 n2 d2,.slice A3 n3 d3,.slice A4 n4 d4],.int .i64 q] w fun e w'=>∃cs',e= .returned (.tuple #[vAgg cs',.int .i64 0])∧stL.R (·<w'.heap.size) w' cs' (beginS nl q)∧Below w.heap.size w w'
 obtain⟨N,hN⟩:∃N,w.heap.size=N:=⟨_,rfl⟩
 clear h hf k3 hnl hq hm hq0
 go_enter Try.func10,Try.ntmps10
 go_upto_region 1 with(fail)
 refine zi fun W hW=> ?_
 have HB0:Hid (Below w.heap.size w W):=by show Below _ _ _;rw[hW];exact((zS _ _).alloc (zQ _) _).alloc (by simp) _
 have HK0:Hid (Blk W N 53 #[.slice A0 n0 d0,.slice (some a) n1 d1,.slice A2 n2 d2,.slice A3 n3 d3,.slice A4 n4 d4]):=by show Blk _ _ _ _;rw[hW];exact zc (zl hN)
 have HK1:Hid (Blk W (N+1) 27 #[.slice none 0 0,.slice none 0 0,.slice none 0 0,.int .i64 0,.int .i64 0,.int .i64 0,.int .u64 0]):=by show Blk _ _ _ _;rw[hW];exact zl qT
 have hsW:W.heap.size=N+2:=by rw[hW];simp;omega
 clear hW
 have y0:=HK0.out.cell 0
 have y1:=HK0.out.cell 1
 have y2:=HK0.out.cell 2
 have y3:=HK0.out.cell 3
 have y4:=HK0.out.cell 4
 go_upto_region 3 with(first
  |(go_at_call 24
    refine(TM.out _ HB0.out).mono ?_
    rintro e w1 ⟨rfl,hb1⟩
    have HB1:=zL hb1
    clear hb1 y0 y1 y2 y3 y4)
  |(go_at_call 25
    refine(TU.out _).mono ?_
    rintro e w2 ⟨rfl,hw2⟩
    have hw3:=hw2.symm
    subst hw3))
 have y1:=(zb HK0.out HB1.out (by omega)).cell 1
 have x3:=qA3 HK3.out (HB0.out.trans (HB1.out.mono HB0.out.size))
 have hs1:=HB1.out.size
 go_upto_region 4 with(fail)
 refine zi fun U hU=> ?_
 obtain⟨S1,hS1⟩:∃x,w1.heap.size=x:=⟨_,rfl⟩
 have hsU:U.heap.size=S1+2:=by rw[hU];simp;omega
 have HBU:Hid (Below w.heap.size w U):=by show Below _ _ _;rw[hU];exact((HB0.out.trans (HB1.out.mono HB0.out.size)).alloc (by have:=HB0.out.size;omega) _).alloc (by have:=HB0.out.size;first|omega|(simp;omega)) _
 have HKS:Hid (Blk U S1 25 (madeCells #[.int .u64 0] nl)):=by show Blk _ _ _ _;rw[hU];exact zc (zl hS1)
 have HKF:Hid (Blk U (S1+1) 34 #[.int .i64 0,.int .i64 0,.slice (some ⟨S1,0,none⟩) nl nl,.slice none 0 0]):=by show Blk _ _ _ _;rw[hU,hS1];refine zl ?_;rw[World.size_alloc,hS1]
 have HKR:Hid (Blk U (N+1) 27 #[.slice none 0 0,.slice none 0 0,.slice none 0 0,.int .i64 0,.int .i64 0,.int .i64 0,.int .u64 0]):=by show Blk _ _ _ _;rw[hU];exact zc (zc (zb HK1.out HB1.out (by omega)))
 clear hU y1 x3
 rw[hS1]
 have z0:=HKF.out.cell 0
 have z1:=HKF.out.cell 1
 have z2:=HKF.out.cell 2
 have z3:=HKF.out.cell 3
 obtain⟨X,hX⟩:∃X,X=S1+2:=⟨_,rfl⟩
 have r0:=fun o=>(zc (o:=o) HKR.out).cell 0
 have r1:=fun o=>(zc (o:=o) HKR.out).cell 1
 have r2:=fun o=>(zc (o:=o) HKR.out).cell 2
 have r3:=fun o=>(zc (o:=o) HKR.out).cell 3
 have r4:=fun o=>(zc (o:=o) HKR.out).cell 4
 have r5:=fun o=>(zc (o:=o) HKR.out).cell 5
 have r6:=fun o=>(zc (o:=o) HKR.out).cell 6
 have f0:=fun o=>(zc (o:=o) HKR.out).frozen 0
 have f1:=fun o=>(zc (o:=o) HKR.out).frozen 1
 have f2:=fun o=>(zc (o:=o) HKR.out).frozen 2
 have f3:=fun o=>(zc (o:=o) HKR.out).frozen 3
 have f4:=fun o=>(zc (o:=o) HKR.out).frozen 4
 have f5:=fun o=>(zc (o:=o) HKR.out).frozen 5
 have f6:=fun o=>(zc (o:=o) HKR.out).frozen 6
 go_wp2_with fail
 refine bodyPost_ret (v:= .tuple #[.agg #[.slice (some ⟨X,0,none⟩) 1 1,.slice none 0 0,.slice none 0 0,.int .i64 q,.int .i64 0,.int .i64 0,.int .u64 0],.int .i64 0]) (by simp[results,Try.results10,go_sem,r0,r1,r2,r3,r4,r5,r6,hX,hsU]) rfl ⟨[.slice (some ⟨X,0,none⟩) 1 1,.slice none 0 0,.slice none 0 0,.int .i64 q,.int .i64 0,.int .i64 0,.int .u64 0],rfl,?_,?_⟩
 · have e1:(U.alloc (.cells #[.int .i64 0,.int .i64 0,.slice (some ⟨S1,0,none⟩) nl nl,.slice none 0 0] 34)).heap[S1]? =some (.cells (madeCells #[.int .u64 0] nl) 25):=zc HKS.out
   have e2:(U.alloc (.cells #[.int .i64 0,.int .i64 0,.slice (some ⟨S1,0,none⟩) nl nl,.slice none 0 0] 34)).heap[X]? =some (.cells #[.int .i64 0,.int .i64 0,.slice (some ⟨S1,0,none⟩) nl nl,.slice none 0 0] 34):=zl (by omega)
   have hSN:S1≠N+1∧X≠N+1:=by omega
   have hk:∀(W2:World) b i u,b≠N+1→(W2.setCell ⟨N+1,i,none⟩ u).heap[b]? =W2.heap[b]? :=fun W2 b i u hb=>zX _ _ _ _ hb
   refine qCC (S1:=S1) ?_ ?_ hn HQ.out
   all_goals(show _=_;repeat(first|with_reducible exact e1|with_reducible exact e2|(with_reducible refine(hk _ _ _ _ ?_).trans ?_;first|exact hSN.1|exact hSN.2)))
 · have hb:Below w.heap.size w (U.alloc (.cells #[.int .i64 0,.int .i64 0,.slice (some ⟨S1,0,none⟩) nl nl,.slice none 0 0] 34)):=HBU.out.alloc (by have:=HBU.out.size;omega) _
   repeat(first|with_reducible exact hb|refine Below.setCell ?_ (by show w.heap.size≤N+1;omega) _)
section
variable {P:Program} {ops:Array Oper} {Q:Exit→Go.Act→World→Prop} {md:Region.Mode} {S:World→Prop} {kp:Nat}
def wpAnyG (P:Program) (md:Region.Mode) (ops:Array Oper) (Q:Exit→Go.Act→World→Prop) (S:World→Prop) (kp:Nat):Nat→Array Bool→Go.Act→World→Prop
 |0,listed,a,w=>Region.ready md ops listed=[]∧Q .normal a w
 |fuel+1,listed,a,w=>
  (Region.ready md ops listed=[]→Q .normal a w)∧
  ∀i∈Region.ready md ops listed,wpOp P ops Q i (fun a' w'=>((listed.setIfInBounds i true).getD kp true=false→S w')∧wpAnyG P md ops Q S kp fuel (listed.setIfInBounds i true) a' w') a w
theorem qAa:∀(fuel:Nat) (listed:Array Bool) (a:Go.Act) (w:World),wpAnyG P md ops Q S kp fuel listed a w→wpAny P md ops Q fuel listed a w
 |0,_,_,_,h=>h
 |fuel+1,_,_,_,h=>⟨h.1,fun i hi=>wpOp_mono (fun a' w' h'=>qAa fuel _ a' w' h'.2) (h.2 i hi)⟩
theorem qA4 {i:Nat} {oi:Oper} {v:Value} (hi:ops[i]? =some oi) (hsel:∀(j:Nat) (o:Oper) cs b,ops[j]? =some o→o.op≠.select cs b) (hk:∃ok,ops[kp]? =some ok∧∃e∈ok.after,Region.binds md e=true∧e.on=i) (hki:kp≠i)
 (hQ:∀c a w,Q (.panic c) (a.put oi.dst v) w→Q (.panic c) a w):
 ∀(fuel:Nat) (listed:Array Bool) (a:Go.Act) (w:World),listed.getD kp true=false→
  (∀j oj,ops[j]? =some oj→j≠i→listed.getD j true=false→(∀e∈oj.after,Region.binds md e=true→e.on≠i)→oi.apart ops oj=true)→
  i∈Region.ready md ops listed→YieldsIf P ops S oi v a→S w→
  wpAnyG P md ops Q S kp fuel (listed.setIfInBounds i true) (a.put oi.dst v) w→wpAnyG P md ops Q S kp (fuel+1) listed a w:=by
 intro fuel
 induction fuel with
 |zero=>
  intro listed a w hkl _ hr hy hS H
  refine⟨fun h=>(by rw[h] at hr;cases hr),fun j hj=> ?_⟩
  by_cases hji:j=i
  · subst hji;exact hy.wpOp hi hS ⟨fun _=>hS,H⟩
  · have:=ready_mono hj hji
    rw[H.1] at this
    cases this
 |succ fuel ih=>
  intro listed a w hkl hfree hr hy hS H
  refine⟨fun h=>(by rw[h] at hr;cases hr),fun j hj=> ?_⟩
  by_cases hji:j=i
  · subst hji;exact hy.wpOp hi hS ⟨fun _=>hS,H⟩
  · have h1:=H.2 j (ready_mono hj hji)
    obtain⟨hjun,oj,hoj,hall⟩:=mem_ready.1 hj
    have hnot:∀e∈oj.after,Region.binds md e=true→e.on≠i:=fun e he hb heq=>by
     have h1:=hall e he hb
     have h0:=(mem_ready.1 hr).1
     rw[heq] at h1
     rcases Nat.lt_or_ge i listed.size with h'|h'
     · simp[h'] at h0 h1;rw[h0] at h1;cases h1
     · simp[Array.getElem?_eq_none h'] at h1
    have hjk:j≠kp:=by
     rintro rfl
     obtain⟨ok,h1,e,he,h2,h3⟩:=hk
     rw[hoj] at h1
     injection h1 with h1
     subst h1
     exact hnot e he h2 h3
    have h2:=wpOp_putIf hoj (hfree j oj hoj hji hjun hnot) (fun cs b=>hsel i oi cs b hi) (fun cs b=>hsel j oj cs b hoj) hQ hy h1
    have hfree':∀k ok,ops[k]? =some ok→k≠i→(listed.setIfInBounds j true).getD k true=false→
     (∀e∈ok.after,Region.binds md e=true→e.on≠i)→oi.apart ops ok=true:=fun k ok hk hki hun hno=>by
     refine hfree k ok hk hki ?_ hno
     by_cases hjk:j=k
     · subst hjk;exact hjun
     · rw[getD_set_ne true hjk] at hun;exact hun
    have hkl':(listed.setIfInBounds j true).getD kp true=false:=by rw[getD_set_ne true hjk];exact hkl
    have hkl2:((listed.setIfInBounds i true).setIfInBounds j true).getD kp true=false:=by rw[getD_set_ne true hjk,getD_set_ne true (Ne.symm hki)];exact hkl
    refine wpOp_mono (fun a' w' h3=>⟨fun _=>h3.2.1 hkl2,ih (listed.setIfInBounds j true) a' w' hkl' hfree' (ready_mono hr (Ne.symm hji)) h3.1 (h3.2.1 hkl2) ?_⟩) h2
    rw[Array.setIfInBounds_comm _ _ hji]
    exact h3.2.2
theorem qBK {i:Nat} {oi:Oper} {v:Value} (hi:ops[i]? =some oi) (hsel:∀(j:Nat) (o:Oper) cs b,ops[j]? =some o→o.op≠.select cs b) (hki:kp≠i)
 (hQ:∀c a w,Q (.panic c) (a.put oi.dst v) w→Q (.panic c) a w):
 ∀(fuel:Nat) (listed:Array Bool) (a:Go.Act) (w:World),(listed.getD kp true=false→S w)→
  (∀j oj,ops[j]? =some oj→j≠i→listed.getD j true=false→(∀e∈oj.after,Region.binds md e=true→e.on≠i)→oi.apart ops oj=true)→
  i∈Region.ready md ops listed→YieldsIf P ops (fun _=>True) oi v a→
  wpAnyG P md ops Q S kp fuel (listed.setIfInBounds i true) (a.put oi.dst v) w→wpAnyG P md ops Q S kp (fuel+1) listed a w:=by
 intro fuel
 induction fuel with
 |zero=>
  intro listed a w hS _ hr hy H
  refine⟨fun h=>(by rw[h] at hr;cases hr),fun j hj=> ?_⟩
  by_cases hji:j=i
  · subst hji;exact hy.wpOp hi trivial ⟨fun hh=>hS (by rwa [getD_set_ne true (Ne.symm hki)] at hh),H⟩
  · have:=ready_mono hj hji
    rw[H.1] at this
    cases this
 |succ fuel ih=>
  intro listed a w hS hfree hr hy H
  refine⟨fun h=>(by rw[h] at hr;cases hr),fun j hj=> ?_⟩
  by_cases hji:j=i
  · subst hji;exact hy.wpOp hi trivial ⟨fun hh=>hS (by rwa [getD_set_ne true (Ne.symm hki)] at hh),H⟩
  · have h1:=H.2 j (ready_mono hj hji)
    obtain⟨hjun,oj,hoj,hall⟩:=mem_ready.1 hj
    have hnot:∀e∈oj.after,Region.binds md e=true→e.on≠i:=fun e he hb heq=>by
     have h1:=hall e he hb
     have h0:=(mem_ready.1 hr).1
     rw[heq] at h1
     rcases Nat.lt_or_ge i listed.size with h'|h'
     · simp[h'] at h0 h1;rw[h0] at h1;cases h1
     · simp[Array.getElem?_eq_none h'] at h1
    have h2:=wpOp_putIf hoj (hfree j oj hoj hji hjun hnot) (fun cs b=>hsel i oi cs b hi) (fun cs b=>hsel j oj cs b hoj) hQ hy h1
    have hfree':∀k ok,ops[k]? =some ok→k≠i→(listed.setIfInBounds j true).getD k true=false→
     (∀e∈ok.after,Region.binds md e=true→e.on≠i)→oi.apart ops ok=true:=fun k ok hk hki hun hno=>by
     refine hfree k ok hk hki ?_ hno
     by_cases hjk:j=k
     · subst hjk;exact hjun
     · rw[getD_set_ne true hjk] at hun;exact hun
    have hs:∀w',(((listed.setIfInBounds i true).setIfInBounds j true).getD kp true=false→S w')→(listed.setIfInBounds j true).getD kp true=false→S w':=fun w' h3 hh=>h3 (by
     rw[Array.setIfInBounds_comm _ _ (Ne.symm hji),getD_set_ne true (Ne.symm hki)];exact hh)
    refine wpOp_mono (fun a' w' h3=>⟨hs w' h3.2.1,ih (listed.setIfInBounds j true) a' w' (hs w' h3.2.1) hfree' (ready_mono hr (Ne.symm hji)) h3.1 ?_⟩) h2
    rw[Array.setIfInBounds_comm _ _ hji]
    exact h3.2.2
def waitsB (md:Region.Mode) (ops:Array Oper) (kp i:Nat):Bool:=decide (kp≠i) && (match ops[kp]? with|some o=>o.after.toList.any fun e=>Region.binds md e && e.on==i|none=>false)
theorem qAN {i:Nat} (h:waitsB md ops kp i=true):kp≠i∧∃ok,ops[kp]? =some ok∧∃e∈ok.after,Region.binds md e=true∧e.on=i:=by
 unfold waitsB at h
 simp only[Bool.and_eq_true,decide_eq_true_eq] at h
 obtain⟨h1,h2⟩:=h
 refine⟨h1,?_⟩
 cases e:ops[kp]? with
 |none=>rw[e] at h2;cases h2
 |some o=>
  rw[e] at h2
  simp only[List.any_eq_true,Bool.and_eq_true,beq_iff_eq] at h2
  obtain⟨e,he,h3,h4⟩:=h2
  exact⟨o,rfl,e,Array.mem_toList_iff.1 he,h3,h4⟩
theorem je {i:Nat} {oi:Oper} {v:Value} {fuel:Nat} {listed:Array Bool} {a:Go.Act} {w:World} (hi:ops[i]? =some oi)
 (hs:Region.noSelect ops=true) (hf:Region.free md ops listed i=true) (hr:(Region.ready md ops listed).contains i=true) (hk:waitsB md ops kp i=true) (hl:listed.getD kp true=false)
 (hQ:∀c a w,Q (.panic c) (a.put oi.dst v) w→Q (.panic c) a w) (hy:YieldsIf P ops S oi v a) (hS:S w)
 (h:wpAnyG P md ops Q S kp fuel (listed.setIfInBounds i true) (a.put oi.dst v) w):wpAnyG P md ops Q S kp (fuel+1) listed a w:=
 qA4 hi (Region.noSelect_spec hs) (qAN hk).2 (qAN hk).1 hQ fuel listed a w hl (Region.free_spec hi hf) (by simpa using hr) hy hS h
theorem zw {i:Nat} {oi:Oper} {v:Value} {fuel:Nat} {listed:Array Bool} {a:Go.Act} {w:World} (hi:ops[i]? =some oi)
 (hs:Region.noSelect ops=true) (hf:Region.free md ops listed i=true) (hr:(Region.ready md ops listed).contains i=true) (hk:kp≠i) (hS:listed.getD kp true=false→S w)
 (hQ:∀c a w,Q (.panic c) (a.put oi.dst v) w→Q (.panic c) a w) (hy:YieldsIf P ops (fun _=>True) oi v a)
 (h:wpAnyG P md ops Q S kp fuel (listed.setIfInBounds i true) (a.put oi.dst v) w):wpAnyG P md ops Q S kp (fuel+1) listed a w:=
 qBK hi (Region.noSelect_spec hs) hk hQ fuel listed a w hS (Region.free_spec hi hf) (by simpa using hr) hy h
theorem jF {i:Nat} {o:Oper} {fuel:Nat} {listed:Array Bool} {a:Go.Act} {w:World} (hr:Region.ready md ops listed=[i]) (ho:ops[i]? =some o)
 (h:∀K:Go.Act→World→Prop,Shut (∀a' w',((listed.setIfInBounds i true).getD kp true=false→S w')→wpAnyG P md ops Q S kp fuel (listed.setIfInBounds i true) a' w'→K a' w')→
   if Region.wanted o (yielded ops a.tmps)=true then o.wp P a w K Q else K (a.put o.dst undef) w):wpAnyG P md ops Q S kp (fuel+1) listed a w:=by
 refine⟨fun h0=>(by rw[h0] at hr;cases hr),fun j hj=> ?_⟩
 rw[hr] at hj
 obtain rfl:j=i:=by simpa using hj
 have:=h (fun a' w'=>((listed.setIfInBounds j true).getD kp true=false→S w')∧wpAnyG P md ops Q S kp fuel (listed.setIfInBounds j true) a' w') (fun a' w' h1 h2=>⟨h1,h2⟩)
 unfold wpOp
 simp only[ho]
 split
 · rename_i hw
   rw[if_pos hw] at this
   exact .inl this
 · rename_i hw
   rw[if_neg hw] at this
   exact this
theorem qBL {listed:Array Bool} {a:Go.Act} {w:World} (hr:Region.ready md ops listed=[]) (h:Q .normal a w):∀fuel,wpAnyG P md ops Q S kp fuel listed a w
 |0=>⟨hr,h⟩
 |_+1=>⟨fun _=>h,by rw[hr];simp⟩
theorem qBk {id:Nat} {a:Go.Act} {w:World} (kp:Nat) (S:World→Prop) (hm:P.follows .mixedOrders=true) (hS:S w.drew) (h:S w.drew→wpAnyG P .any ops Q S kp ops.size (Array.replicate ops.size false) a w.drew):(Code.region id ops true).wp P Q a w:=
 wp_region_any hm (qAa _ _ _ _ (h hS))
theorem j5 {fuel:Nat} {listed:Array Bool} {a:Go.Act} {w:World} (h:∀X,X=w→wpAnyG P md ops Q S kp fuel listed a X):wpAnyG P md ops Q S kp fuel listed a w:=h w rfl
end
end Go.Proofs.Ytconajaecpgjgaa
