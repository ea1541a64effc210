/-
Vck Ire Iran Irf
-/
import Derived.Test.YtelceoecekfamaaGreatQ02
import Derived.Test.YtelceoecekfamaaGreatQ11
import Derived.Test.YtelceoecekfamaaGreatQ16
import Derived.Test.YtelceoecekfamaaGreatQ18
import Derived.Test.YtelceoecekfamaaGreatQ20
set_option linter.unusedSimpArgs false
set_option linter.unusedVariables false
set_option maxRecDepth 100000
set_option maxHeartbeats 4000000
namespace Go.Proofs.YtelceoecekfamaaGreat
open Go.RowKit
variable {L:List (List Shape)}{e:Ending}{fn:Fn}{g:Nat→Nat}{k:Nat}{l:List Shape}{n:Nat→Nat}{q:Nat}{r:Nat→Nat→Nat→Int}{w w':World}{x:Mod}
def Checked (x:Mod) (w:World) (e:Ending) (w':World):Prop:=
 Below w.heap.size w w'∧((checkN x≠0∧e= .returned (.tuple #[.slice none 0 0,.int .i64 0,.int .i64 0,.int .i64 (checkN x)]))∨
  (checkN x=0∧mainB x=false∧e= .returned (.tuple #[.slice none 0 0,.int .i64 0,.int .i64 0,.int .i64 1]))∨
  (checkN x=0∧mainB x=true∧NeverM x∧∃(f pc:Nat) (fn:Fn),x.funcs[f]? =some fn∧pc<fn.code.length∧e= .returned (.tuple #[.slice none 0 0,.int .i64 (f:Int),.int .i64 (pc:Int),.int .i64 4]))∨
  (checkN x=0∧mainB x=true∧∃U L A c,LeastM x L∧e= .returned (.tuple #[.slice A L.length c,.int .i64 0,.int .i64 0,.int .i64 0])∧(slL (rowU U)).R (fun b=>w.heap.size≤b∧b<w'.heap.size) w' [.slice A L.length c] L∧(∀a,A=some a→¬U a.block)∧∀b,U b→w.heap.size≤b))
def UptoF (x:Mod) (W:World) (k:Nat) (v:Value) (wr:World):Prop:=
 Below W.heap.size W wr∧∃U L,Owns (rowU U) 50 W.heap.size wr v L∧L.length=k∧(∀(j:Nat) (fn:Fn) (l:List Shape),x.funcs[j]? =some fn→L[j]? =some l→Least x fn l)∧(∀b,U b→W.heap.size≤b∧b<wr.heap.size)∧∀b,v.ownBlock=some b→¬U b
theorem UptoF.zero (x:Mod) (W:World):UptoF x W 0 (.slice none 0 0) W:=⟨qAk _ _,fun _=>False,[],Owns.nil _ _ _ _,rfl,fun j fn l _ h=>by simp at h,fun b h=>h.elim,fun b h=>by cases h⟩
theorem qIq:(Tryz.prog.info? 50).map (fun i=>(i.zero,i.size,i.bytes))=some (some (.slice none 0 0),1,24):=by kernel_rfl
theorem qBn {fn:Func} {t u v s:Tmp} (h:fn.results= #[.tmp t,.tmp u,.tmp v,.tmp s]) (tmps:Array Value) (P:Program) (w:World):
 (results fn tmps).run P w= .ok (.tuple #[tmps.getD t undef,tmps.getD u undef,tmps.getD v undef,tmps.getD s undef]) w:=by
 simp[results,h]
theorem qGT (h:Shaped x fn w e w'):Below w.heap.size w w'∧((∃U l A c,e= .returned (.tuple #[.slice A l.length c,.int .i64 0,.bool true])∧Least x fn l∧(∀b,U b→w.heap.size≤b∧b<w'.heap.size)∧(rowU U).R (fun b=>w.heap.size≤b∧b<w'.heap.size) w' [.slice A l.length c] l)∨
 (∃pc:Nat,pc<fn.code.length∧e= .returned (.tuple #[.slice none 0 0,.int .i64 (pc:Int),.bool false])∧Never x fn)):=by
 obtain⟨hb,⟨U,l,v,rfl,hl,hu,hr⟩|h⟩:=h
 · have hr2:=hr
   obtain⟨A,c,e,-⟩:=hr2;simp only[List.cons.injEq,and_true] at e;subst e;exact⟨hb,.inl ⟨U,l,A,c,rfl,hl,hu,hr⟩⟩
 · exact⟨hb,.inr h⟩
theorem UptoF.step {W wr w6:World} {v:Value} {U U6:Nat→Prop} {A:Option Addr} {c:Nat} (hO:Owns (rowU U) 50 W.heap.size wr v L) (hb:Below W.heap.size W wr) (hlen:L.length=k) (hle:∀(j:Nat) (fn:Fn) (l:List Shape),x.funcs[j]? =some fn→L[j]? =some l→Least x fn l) (hU:∀b,U b→W.heap.size≤b∧b<wr.heap.size) (hv:∀b,v.ownBlock=some b→¬U b) (hc:checkN x=0)
 (hf:x.funcs[k]? =some fn) (hl:Least x fn l) (h6:Below wr.heap.size wr w6) (hU6:∀b,U6 b→wr.heap.size≤b∧b<w6.heap.size) (hR:(rowU U6).R (fun b=>wr.heap.size≤b∧b<w6.heap.size) w6 [.slice A l.length c] l):
 Owns (rowU fun b=>U b∨U6 b) 50 W.heap.size (w6.alloc (.cells #[.slice A l.length c] 50)) v L∧(rowU fun b=>U b∨U6 b).R (fun b=>W.heap.size≤b∧b<(w6.alloc (.cells #[.slice A l.length c] 50)).heap.size∧v.ownBlock≠some b) (w6.alloc (.cells #[.slice A l.length c] 50)) [.slice A l.length c] l∧
  ∀v' w7,Owns (rowU fun b=>U b∨U6 b) 50 W.heap.size w7 v' (L++[l])→(w6.alloc (.cells #[.slice A l.length c] 50)).grownBy w7 v.ownBlock→(v'.ownBlock=v.ownBlock∨v'.ownBlock=some (w6.heap.size+1))→UptoF x W (k+1) v' w7:=by
 have hs:=hb.size;have hs6:=h6.size;have hpos:∀{fn:Fn} {l:List Shape},fn∈x.funcs→Least x fn l→0<l.length:=fun hm hl=>by
  have:=(qA1.1 (qAw hc)).funcs _ hm;simp only[fnOk,Bool.and_eq_true,qBH] at this;rw[hl.len]
  omega
 have hpL:∀y∈L,0<y.length:=fun y hy=>by
  obtain⟨j,hj⟩:=qBM.1 hy;have hjl:=(qAj.1 hj).1;have hkl:=(qAj.1 hf).1;have hfj:x.funcs[j]? =some (x.funcs[j]'(by omega)):=List.getElem?_eq_getElem _;exact hpos (List.getElem_mem _) (hle j _ y hfj hj)
 have hal:Below w6.heap.size w6 (w6.alloc (.cells #[.slice A l.length c] 50)):=qAo _ _;refine⟨?_,?_,fun v' w7 hO7 hg hv'=>⟨?_,_,_,hO7,by simp[hlen],fun j fn' l' hf' hl'=> ?_,fun b hu=> ?_,fun b hb7 hu=> ?_⟩⟩
 · refine((Owns.turn (L':=rowU fun b=>U b∨U6 b) hO rfl fun cs y hy hr=>qFY (U':=fun b=>U b∨U6 b) hr (fun b hb2=>⟨fun h=> .inl h,fun h=> ?_⟩) (hpL y hy)).below h6).below hal
   rcases h with h|h
   · exact h
   · have:=hU6 b h;omega
 · refine(rowU _).wide ((rowU _).keep (qFY (U':=fun b=>U b∨U6 b) hR (fun b hb2=>⟨fun h=> .inr h,fun h=> ?_⟩) (hpos (qAl hf) hl)) fun b hb2=>hal.block b hb2.2) fun b hb2=>⟨by omega,by simp;omega,fun e=>by have:=hO.lt b e;omega⟩
   rcases h with h|h
   · have:=hU b h;omega
   · exact h
 · refine hb.trans ((h6.trans (hal.mono hs6)).mono hs |>.trans ?_)
   exact qCT (by exact hg) qK fun i hi=>(hO.lt i hi).1
 · rcases Nat.lt_or_ge j L.length with hj|hj
   · rw[List.getElem?_append_left hj] at hl'
     exact hle j fn' l' hf' hl'
   · exact qu
 · have:=hg.size
   simp at this;rcases hu with h|h
   · have:=hU b h;omega
   · have:=hU6 b h;omega
 · rcases hv' with e|e
   · rw[e] at hb7
     rcases hu with h|h
     · exact hv b hb7 h
     · have:=hU6 b h
       have:=hO.lt b hb7
       omega
   · rw[e] at hb7
     injection hb7 with hb7;rcases hu with h|h
     · have:=hU b h;omega
     · have:=hU6 b h;omega
theorem qGJ (cs:List Value) (x:Mod) (w:World) (h:modL.R (·<w.heap.size) w cs x):Calls Tryz.prog 12 #[vAgg cs] w (Checked x w):=by
 refine jO ?_;intro TE;have TM:Hid (∀w1,Below w.heap.size w w1→Calls Tryz.prog 23 #[vAgg cs] w1 (Tells (mainB x) w1)):=fun w1 hb=>qI9 cs x w1 (qBS h hb);have TS:Hid (∀(w1:World) (j:Nat) (fn:Fn),Below w.heap.size w w1→checkN x=0→x.funcs[j]? =some fn→Calls Tryz.prog 24 #[vAgg cs,.int .i64 (j:Nat)] w1 (Shaped x fn w1)):=fun w1 j fn hb hc hf=>qGU cs x j fn w1 (qBS h hb) hc hf;obtain⟨n1,h1⟩:∃n,x.funcs.length=n:=⟨_,rfl⟩;have HN1:=qAg h1;obtain⟨_,_,_,_,_,rfl,⟨A0,d0,e0,-⟩,⟨A1,d1,e1,-⟩,⟨A2,d2,e2,-⟩,⟨A3,d3,e3,-⟩,⟨A4,d4,e4,-⟩⟩:=h;simp only[List.cons.injEq,and_true] at e0 e1 e2 e3 e4;subst e0 e1 e2 e3 e4;rw[h1] at TE TM TS⊢;generalize x.recs.length=n0 at*;generalize x.imps.length=n2 at*;generalize x.ints.length=n3 at*;generalize x.texts.length=n4 at*;simp only[vAgg] at TE TM TS⊢;clear h1
 go_enter Tryz.func12,Tryz.ntmps12
 go_upto_region 1 with(fail)
 refine qAs fun W hW=> ?_;refine jQ ?_;intro HBW HBx hsW;clear hW;have HBV:Hid (∀v,Below W.heap.size W v→C5 w.heap.size (.slice A0 n0 d0) (.slice A1 n1 d1) (.slice A2 n2 d2) (.slice A3 n3 d3) (.slice A4 n4 d4) v):=fun v hb=>by
  have hf:=qAx HBx.out hb hsW;exact⟨hf.cell 0,hf.cell 1,hf.cell 2,hf.cell 3,hf.cell 4⟩
 obtain⟨z0,z1,z2,z3,z4⟩:=HBV.out W (qAk _ _)
 by_cases hc:checkN x=0
 rotate_left
 · have hne:(checkN x != 0)=true:=by simpa using hc
   have HC:=qAg hc;obtain⟨cn,hcn⟩:∃cn,checkN x=cn:=⟨_,rfl⟩;rw[hcn] at TE hne;have HCN:=qAg hcn;clear hc hcn
   go_wp2_with (first
    |(go_at_call 22
      refine(TE.out _ HBW.out).mono ?_;rintro e w1 ⟨rfl,hb1⟩;have HB1:=qAg hb1;clear hb1))
   (try simp only[Exit.inBlock,Exit.then]);refine bodyPost_ret (qBn rfl _ _ _) rfl ?_
   exact⟨HBW.out.trans (HB1.out.mono HBW.out.size),.inl ⟨HC.out,by rw[HCN.out];rfl⟩⟩
 have HC:=qAg hc;rw[hc] at TE;have hn8:n1≤8:=by have:=(qA1.1 (qAw hc)).f8;rw[HN1.out] at this;omega
 clear hc
 cases hmn:mainB x
 · have HMn:=qAg hmn
   rw[hmn] at TM;clear hmn
   go_wp2_with (first
    |(go_at_call 22
      refine(TE.out _ HBW.out).mono ?_;rintro e w1 ⟨rfl,hb1⟩;have HB1:=qAg hb1;obtain⟨y0,y1,y2,y3,y4⟩:=HBV.out w1 hb1;clear hb1 z0 z1 z2 z3 z4)
    |(go_at_call 23
      refine(TM.out _ (HBW.out.trans (HB1.out.mono HBW.out.size))).mono ?_;rintro e w2 ⟨rfl,hb2⟩;refine jX ?_;intro HB2;clear hb2))
   (try simp only[Exit.inBlock,Exit.then]);refine bodyPost_ret (qBn rfl _ _ _) rfl ?_
   exact⟨HBW.out.trans (HB2.out.mono HBW.out.size),.inr (.inl ⟨HC.out,HMn.out,rfl⟩)⟩
 have HMn:=qAg hmn;rw[hmn] at TM;clear hmn
 go_wp2_with (first
  |(go_at_call 22
    refine(TE.out _ HBW.out).mono ?_;rintro e w1 ⟨rfl,hb1⟩;have HB1:=qAg hb1;obtain⟨y0,y1,y2,y3,y4⟩:=HBV.out w1 hb1;clear hb1 z0 z1 z2 z3 z4)
  |(go_at_call 23
    refine(TM.out _ (HBW.out.trans (HB1.out.mono HBW.out.size))).mono ?_;rintro e w2 ⟨rfl,hb2⟩;refine jX ?_;intro HB2;obtain⟨z0,z1,z2,z3,z4⟩:=HBV.out w2 HB2.out;clear hb2 y0 y1 y2 y3 y4))
 have HU0:Hid (UptoF x W 0 (.slice none 0 0) w2):=⟨HB2.out,fun _=>False,[],Owns.nil _ _ _ _,rfl,fun j fn l _ h=>(by simp at h),fun b h=>h.elim,fun b h=>(by cases h)⟩;clear TE TM HB1 HB2 z0 z1 z2 z3 z4
 go_loopw [2,21] (fun v i wr=>∃k:Nat,k≤n1∧i= .int .i64 (k:Nat)∧UptoF x W k v wr) (fun _ i _=>n1-(intOf i).toNat)
 case atStart=>exact⟨0,qAq _,rfl,HU0.out⟩
 case round=>
  obtain⟨k,hk,rfl,hbW,U,L,hO,hLk,hle,hU,hv⟩:=hrel;clear HU0;have HBk:=qAg hbW;have HO:=qAg hO;have HLk:=qAg hLk;have HLe:=qAg hle;have HU:=qAg hU;have HV:=qAg hv;clear hbW hO hLk hle hU hv
  by_cases hlt:k<n1
  · obtain⟨fn,hf⟩:∃fn,x.funcs[k]? =some fn:=⟨x.funcs[k]'(by rw[HN1.out];exact hlt),List.getElem?_eq_getElem _⟩
    have HF:=qAg hf;have hsk:=HBk.out.size;have SH:=qAg (TS.out _ k fn (HBW.out.trans (HBk.out.mono HBW.out.size)) HC.out hf);obtain⟨z0,z1,z2,z3,z4⟩:=HBV.out _ HBk.out;clear hf
    go_wp2_with fail
    refine SH.out.mono ?_;intro e w6 hsh;obtain⟨hb6,⟨U6,l,A6,c6,rfl,hl,hU6,hR6⟩|⟨pc,hpc,rfl,hne⟩⟩:=qGT hsh
    · have HB6:=qAg hb6
      have ST:=qAg (UptoF.step HO.out HBk.out HLk.out HLe.out HU.out HV.out HC.out HF.out hl hb6 hU6 hR6);have hs6:=hb6.size;clear hsh hb6 hl hU6 hR6
      go_wp2_with (first
       |(at_builtin
         refine qDb (rowU fun b=>U b∨U6 b) _ rfl (.tmp 35) (.tmp 37) 36 50 rfl (.slice none 0 0) 24 Tryz.underlying36 qIq rfl Nat.one_pos qr W.heap.size u2 L rfl ST.out.1 ⟨w6.heap.size,0,none⟩ 1 rfl [.slice A6 l.length c6] l (qF6 w6 50 [.slice A6 l.length c6]) ST.out.2.1 (by rw[HLk.out];omega) qK ?_;intro v2 w7 hown2 hg2 hv2;have HO2:=qAg (ST.out.2.2 v2 w7 hown2 hg2 (by simpa using hv2));clear hown2 hg2 hv2))
      exact⟨⟨k+1,by omega,by simp,HO2.out⟩,by simp[intOf];omega⟩
    · have HB6:=qAg hb6
      have HP6:=qAg hpc;have HNe:=qAg hne;clear hsh hb6 hpc hne
      go_wp2_with fail
      (try simp only[Exit.inBlock,Exit.then]);refine bodyPost_ret (qBn rfl _ _ _) rfl ?_
      exact⟨HBW.out.trans ((HBk.out.trans (HB6.out.mono hsk)).mono HBW.out.size),.inr (.inr (.inl ⟨HC.out,HMn.out,⟨fn,qAl HF.out,HNe.out⟩,k,pc,fn,HF.out,HP6.out,rfl⟩))⟩
  · obtain rfl:k=n1:=by omega
    have hsl:=HO.out.slice;have hsl2:=hsl;obtain⟨A,c,e,-⟩:=hsl2;simp only[List.cons.injEq,and_true] at e;subst e;have HSl:=qAg hsl;clear hsl
    go_wp2_with fail
    (try simp only[Exit.inBlock,Exit.then]);refine bodyPost_ret (qBn rfl _ _ _) rfl ?_
    refine⟨HBW.out.trans (HBk.out.mono HBW.out.size),.inr (.inr (.inr ⟨HC.out,HMn.out,U,L,A,c,⟨by rw[HLk.out,HN1.out],HLe.out⟩,rfl,(slL (rowU U)).wide HSl.out fun b hb=>by omega,fun a ha=>HV.out a.block (by rw[ha];rfl),fun b hb=>by have:=HU.out b hb;omega⟩))⟩
def regF (x:Mod) (fn:Fn) (l:List Shape) (p c:Nat):Int:=match l[p]?,fn.code[p]? with
 |some (true,s),some i=>(regB x fn i s).getD c 0
 |_,_=>0
def rowF (x:Mod) (L:List (List Shape)) (j p c:Nat):Int:=match L[j]?,x.funcs[j]? with
 |some l,some fn=>regF x fn l p c
 |_,_=>0
def lenF (L:List (List Shape)) (j:Nat):Nat:=(L[j]?.getD []).length
def cel6 (r:Nat→Nat→Int) (i:Nat):Value:= .int .i64 (r (i / 6) (i % 6))
def celS (n:Nat→Nat) (g:Nat→Nat) (k i:Nat):Value:=if i<k then .slice (some ⟨g i,0,none⟩) (n i) (n i) else .slice none 0 0
structure Regs (q k:Nat) (n:Nat→Nat) (r:Nat→Nat→Nat→Int) (g:Nat→Nat) (w:World):Prop where
 row:∀j,j<k→Rg w (g j) 47 (n j*6) (cel6 (r j))
 lo:∀j,j<k→q<g j
 up:∀i j,i<j→j<k→g i<g j
theorem Regs.below {v:World} (h:Regs q k n r g w) (hb:Below w.heap.size w v):Regs q k n r g v:=
 ⟨fun j hj=>(h.row j hj).below hb (h.row j hj).lt,h.lo,h.up⟩
theorem Regs.only {b:Nat} {v:World} (h:Regs q k n r g w) (hb:Only b w v) (hg:∀j,j<k→g j≠b):Regs q k n r g v:=
 ⟨fun j hj=>(h.row j hj).only hb (hg j hj),h.lo,h.up⟩
theorem Regs.push {b:Nat} (h:Regs q k n r g w) (hq:q<b) (hg:∀j,j<k→g j<b) (hb:Rg w b 47 (n k*6) (cel6 (r k))):Regs q (k+1) n r (fun j=>if j=k then b else g j) w:=by
 refine⟨fun j hj=> ?_,fun j hj=> ?_,fun i j hi hj=> ?_⟩
 · by_cases e:j=k
   · subst e;simpa using hb
   · simpa[e] using h.row j (by omega)
 · by_cases e:j=k
   · simpa[e] using hq
   · simpa[e] using h.lo j (by omega)
 · by_cases e:j=k
   · subst e
     have:=hg i hi;simpa[Nat.ne_of_lt hi] using this
   · have:=h.up i j hi (by omega)
     simpa[e,show i≠k by omega] using this
theorem qGA {B g:Nat} {a b c:World} (h:Below B a b) (k:Only g b c) (hg:B≤g) (hB:B≤b.heap.size):Below B a c:=
 ⟨k.os.trans h.os,k.tape.trans h.tape,k.output.trans h.output,qA8 h.size k.size,fun i hi=>(k.block i (qAh hi hB) (fun e=>by injection e with e;omega)).trans (h.block i hi)⟩
theorem qIM {n:Nat} {r:Nat→Nat→Int} (i:Nat) (h:r (i / 6) (i % 6)=0):(#[.int .i64 0,.int .i64 0,.int .i64 0,.int .i64 0,.int .i64 0,.int .i64 0]:Array Value).getD (i % 6) undef=cel6 r i:=by
 have hm:i % 6=0∨i % 6=1∨i % 6=2∨i % 6=3∨i % 6=4∨i % 6=5:=by omega
 unfold cel6;rw[h];rcases hm with e|e|e|e|e|e<;>rw[e]<;>rfl
def Comp (x:Mod) (w:World) (e:Ending) (w':World):Prop:=
 Below w.heap.size w w'∧((checkN x≠0∧e= .returned (.tuple #[.slice none 0 0,.int .i64 (checkN x)]))∨
  (checkN x=0∧mainB x=false∧e= .returned (.tuple #[.slice none 0 0,.int .i64 1]))∨
  (checkN x=0∧mainB x=true∧NeverM x∧e= .returned (.tuple #[.slice none 0 0,.int .i64 4]))∨
  (checkN x=0∧mainB x=true∧∃L q g,LeastM x L∧e= .returned (.tuple #[.slice (some ⟨q,0,none⟩) L.length L.length,.int .i64 0])∧w.heap.size≤q∧Rg w' q 45 L.length (celS (lenF L) g L.length)∧Regs q L.length (lenF L) (rowF x L) g w'))
theorem qHG {S:Nat→Prop} {A:Option Addr} (h:Sq rowL S w A L) (hk:L[k]? =some l):
 ∃a D c,A=some a∧S a.block∧w.cell? (a.add k)=some (.slice D l.length c)∧l.length≤c∧c≤maxLen∧Sq shpL S w D l:=by
 obtain⟨a,cs,e,hs,hc,D,c,rfl,h1,h2,h3⟩:=h.at hk;have c0:=hc 0 _ rfl;rw[show k*rowL.k+0=k by show k*1+0=k;omega] at c0;exact⟨a,D,c,e,hs,c0,h1,h2,h3⟩
theorem qGu:(Tryz.prog.info? 45).map (fun i=>(i.zero,i.size,i.bytes))=some (some (.slice none 0 0),1,24):=by kernel_rfl
theorem qGv:(Tryz.prog.info? 47).map (fun i=>(i.zero,i.size,i.bytes))=some (some (.agg #[.int .i64 0,.int .i64 0,.int .i64 0,.int .i64 0,.int .i64 0,.int .i64 0]),6,48):=by kernel_rfl
theorem qDs (n:Nat) (hn:n≤1000) (w:World):(Instr.makeSlice 31 (.int .i64 (n:Nat)) (.int .i64 (n:Nat))).run Tryz.prog w= .ok (.slice (some ⟨w.heap.size,0,none⟩) n n) (w.alloc (.cells (madeCells #[.slice none 0 0] (n*1)) 45)):=by
 obtain⟨i,hi,hz,hs,hb⟩:=info_parts qGu;have:=run_make (P:=Tryz.prog) w 31 45 i _ Tryz.underlying31 hi hz .i64 .i64 (n:Int) (n:Int) (by omega) (Int.le_refl _) (by rw[hb];omega) (by omega);rw[hs,Int.toNat_natCast] at this;exact this
theorem qDt (n:Nat) (hn:n≤1000) (w:World):(Instr.makeSlice 45 (.int .i64 (n:Nat)) (.int .i64 (n:Nat))).run Tryz.prog w= .ok (.slice (some ⟨w.heap.size,0,none⟩) n n) (w.alloc (.cells (madeCells #[.int .i64 0,.int .i64 0,.int .i64 0,.int .i64 0,.int .i64 0,.int .i64 0] (n*6)) 47)):=by
 obtain⟨i,hi,hz,hs,hb⟩:=info_parts qGv;have:=run_make (P:=Tryz.prog) w 45 47 i _ Tryz.underlying45 hi hz .i64 .i64 (n:Int) (n:Int) (by omega) (Int.le_refl _) (by rw[hb];omega) (by omega);rw[hs,Int.toNat_natCast] at this;exact this
theorem qFL (h:Checked x w e w'):Below w.heap.size w w'∧((∃er f p:Int,e= .returned (.tuple #[.slice none 0 0,.int .i64 f,.int .i64 p,.int .i64 er])∧er≠0∧((checkN x≠0∧er=checkN x)∨(checkN x=0∧mainB x=false∧er=1)∨(checkN x=0∧mainB x=true∧NeverM x∧er=4)))∨
 (checkN x=0∧mainB x=true∧∃L A c,LeastM x L∧e= .returned (.tuple #[.slice A L.length c,.int .i64 0,.int .i64 0,.int .i64 0])∧Sq rowL (·<w'.heap.size) w' A L)):=by
 obtain⟨hb,⟨hc,rfl⟩|⟨hc,hm,rfl⟩|⟨hc,hm,hN,f,pc,fn,hf,hpc,rfl⟩|⟨hc,hm,U,L,A,c,hL,rfl,⟨A',c',e1,-,-,hs⟩,-⟩⟩:=h
 · exact⟨hb,.inl ⟨_,0,0,rfl,hc,.inl ⟨hc,rfl⟩⟩⟩
 · exact⟨hb,.inl ⟨1,0,0,rfl,by decide,.inr (.inl ⟨hc,hm,rfl⟩)⟩⟩
 · exact⟨hb,.inl ⟨4,f,pc,rfl,by decide,.inr (.inr ⟨hc,hm,hN,rfl⟩)⟩⟩
 · simp only[List.cons.injEq,Value.slice.injEq,and_true,true_and] at e1
   obtain⟨rfl,rfl⟩:=e1;exact⟨hb,.inr ⟨hc,hm,L,A,c,hL,rfl,hs.turn rfl (fun a _ h=>h.2) fun cs x _ h=>rowL.wide (qGY h) fun b hb=>hb.2⟩⟩
theorem qDU (cs:List Value) (x:Mod) (w:World) (h:modL.R (·<w.heap.size) w cs x):Calls Tryz.prog 6 #[vAgg cs] w (Comp x w):=by
 have CK:Hid (∀w1,Below w.heap.size w w1→Calls Tryz.prog 12 #[vAgg cs] w1 (Checked x w1)):=fun w1 hb=>qGJ cs x w1 (qBS h hb);have CM:Hid (∀v (j p:Nat) (D:Option Addr) (k g:Nat) (ts:List Typ) (fn:Fn) (i:Ins) (t:List Typ) (l:List Int),Below w.heap.size w v→checkN x=0→x.funcs[j]? =some fn→fn.code[p]? =some i→ts.length=k→Sq typL (·<v.heap.size) v D ts→k≤1000→k≤g→g≤9223372036854775807→(D=none→g=0)→insB8 x fn i p ts=(0,t,l)→Calls Tryz.prog 13 #[vAgg cs,.int .i64 (j:Int),.int .i64 (p:Int),.slice D k g] v fun e w'=>e= .returned (vAgg (i6 (regB x fn i ts)))∧Below v.heap.size v w'):=
  fun v j p D k g ts fn i t l hb h1 h2 h3 h4 h5 h6 h7 h8 h9 h10=>qFJ cs x j p D k g ts v (qBS h hb) fn i t l h1 h2 h3 h4 h5 h6 h7 h8 h9 h10
 obtain⟨A0,A1,A2,A3,A4,n0,n1,n2,n3,n4,d0,d1,d2,d3,d4,rfl⟩:=qCa h;clear h;simp only[vAgg] at CK CM⊢
 go_enter Tryz.func6,Tryz.ntmps6
 go_upto_region 1 with(fail)
 refine qAs fun W hW=> ?_;refine jQ ?_;intro HBW HBx hsW;clear hW;have HCV:Hid (∀v,Below W.heap.size W v→C5 w.heap.size (.slice A0 n0 d0) (.slice A1 n1 d1) (.slice A2 n2 d2) (.slice A3 n3 d3) (.slice A4 n4 d4) v):=fun v hb=>by
  have hf:=qAx HBx.out hb hsW;exact⟨hf.cell 0,hf.cell 1,hf.cell 2,hf.cell 3,hf.cell 4⟩
 obtain⟨z0,z1,z2,z3,z4⟩:=HCV.out W (qAk _ _)
 go_wp2_with fail
 refine(CK.out W HBW.out).mono ?_;intro e w2 hch;obtain⟨hb2,⟨er,f,p,rfl,hne,hcs⟩|⟨hc,hm,L,A,c,hL,rfl,hS⟩⟩:=qFL hch
 · have HB2:=qAg hb2
   have HCs:=qAg hcs;have hne':(er != 0)=true:=by simpa using hne
   clear hb2 hcs hch hne
   go_wp2_with fail
   go_ret2;refine⟨HBW.out.trans (HB2.out.mono HBW.out.size),?_⟩;rcases HCs.out with⟨h1,h2⟩|⟨h1,h2,h3⟩|⟨h1,h2,h3,h4⟩
   · exact .inl ⟨h1,by subst h2;rfl⟩
   · exact .inr (.inl ⟨h1,h2,by subst h3;rfl⟩)
   · exact .inr (.inr (.inl ⟨h1,h2,h3,by subst h4;rfl⟩))
 have HB2:=qAg hb2;have hs2:=hb2.size;have hn8:L.length≤8:=by have:=(qA1.1 (qAw hc)).f8;rw[hL.len];omega
 have HC:=qAg hc;have HM:=qAg hm;have HL:=qAg hL;have HSq:=qAg hS;obtain⟨n,hn⟩:∃n,L.length=n:=⟨_,rfl⟩;have HN:=qAg hn;rw[hn] at hn8⊢;clear hch hb2 hc hm hL hS hn z0 z1 z2 z3 z4;have M1:=qDs n (by omega)
 go_upto_region 5 with(fail)
 refine qAs fun V hV=> ?_;have HBV:Hid (Below w2.heap.size w2 V):=by show Below _ _ _;rw[hV];exact qAo w2 _
 have HQ0:Hid (Rg V w2.heap.size 45 n (celS (lenF L) (fun _=>0) 0)):=by
  show Rg _ _ _ _ _
  rw[hV];have:=Rg.made (ty:=45) w2 #[.slice none 0 0] 1 n rfl Nat.one_pos;rw[Nat.mul_one] at this;exact this.to fun i hi=>by simp[celS,Nat.mod_one]
 have sV:V.heap.size=w2.heap.size+1:=by rw[hV];simp
 clear hV M1;have HMd:Hid (∀v,Below w2.heap.size w2 v→Below w.heap.size w v):=fun v hb=>HBW.out.trans ((HB2.out.trans (hb.mono hs2)).mono (Nat.le_of_lt hsW))
 go_wp2_with fail
 go_loopw [28] (fun i wr=>∃k:Nat,k≤n∧i= .int .i64 (k:Nat)∧Below w2.heap.size w2 wr∧∃g,Rg wr w2.heap.size 45 n (celS (lenF L) g k)∧Regs w2.heap.size k (lenF L) (rowF x L) g wr) (fun i _=>n-(intOf i).toNat)
 case atStart=>exact⟨0,qAq _,rfl,HBV.out,_,HQ0.out,⟨fun j hj=>absurd hj (by omega),fun j hj=>absurd hj (by omega),fun i j _ hj=>absurd hj (by omega)⟩⟩
 case round=>
  obtain⟨wf,eW⟩:∃wf,wf=wr:=⟨_,rfl⟩;subst eW;obtain⟨k,hk,rfl,hbf,g,hQ,hG⟩:=hrel;have HBf:=qAg hbf;have HQ:=qAg hQ;have HG:=qAg hG;have hqw:=hQ.lt;clear hbf hQ hG
  by_cases hlt:k<n
  · obtain⟨l,hl⟩:∃l,L[k]? =some l:=⟨L[k]'(by rw[HN.out];exact hlt),List.getElem?_eq_getElem _⟩
    obtain⟨fn,hfn⟩:∃fn,x.funcs[k]? =some fn:=⟨x.funcs[k]'(by rw[←HL.out.len,HN.out];exact hlt),List.getElem?_eq_getElem _⟩;have hLe:=HL.out.at_ k fn l hfn hl;obtain⟨aL,D,dl,rfl,hab,hcl,hld,hdm,hSl⟩:=qHG HSq.out hl;have hlen64:l.length≤64:=by rw[hLe.len];exact(qBR HC.out (qAl hfn)).2.2.1
    have hcl':=(HBf.out.cell (p:=aL.add k) qB).trans hcl;obtain⟨m,hm⟩:∃m,l.length=m:=⟨_,rfl⟩;have HLn:Hid (lenF L k=m):=by show _=m;simp[lenF,hl,hm]
    have HRw:Hid (∀p c,rowF x L k p c=regF x fn l p c):=fun p c=>by simp[rowF,hl,hfn]
    rw[hm] at hcl' hlen64 hld;have HLe:=qAg hLe;have HLm:=qAg hm;have HSl:=qAg hSl;have HFn:=qAg hfn;have k1:(k:Int)<(n:Int):=by omega
    unfold maxLen at hdm;have hdm':dl≤9223372036854775807:=by omega
    have M2:=qDt m (by omega);have q1:=HQ.out.cell hlt;have q2:=HQ.out.frozen k;clear hl hfn hLe hcl hSl hm hab hdm
    go_upto_region 9 with(fail)
    refine qAs fun X hX=> ?_;have hq2:w2.heap.size<wf.heap.size:=hqw;have HBX:Hid (Below w2.heap.size w2 X):=by show Below _ _ _;rw[hX];exact(HBf.out.setCell (by simp) _).alloc (by simpa[World.setCell] using HBf.out.size) _
    have HQX:Hid (Rg X w2.heap.size 45 n (celS (lenF L) (fun j=>if j=k then wf.heap.size else g j) (k+1))):=by
     show Rg _ _ _ _ _
     rw[hX];refine((HQ.out.set k _).below (qAo _ _) (by simpa[World.setCell] using hqw)).to fun i hi=> ?_
     by_cases e:i=k
     · subst e;simp[celS,HLn.out]
     · simp only[celS,e,if_false]
       by_cases h2:i<k
       · rw[if_pos h2,if_pos (by omega)]
       · rw[if_neg h2,if_neg (by omega)]
    have HGX:Hid (Regs w2.heap.size k (lenF L) (rowF x L) g X):=by
     show Regs _ _ _ _ _ _
     rw[hX];have h1:Regs w2.heap.size k (lenF L) (rowF x L) g (wf.setCell ⟨w2.heap.size,k,none⟩ (.slice (some ⟨wf.heap.size,0,none⟩) m m)):=
      ⟨fun j hj=>(HG.out.row j hj).other (fun e=>by have:=HG.out.lo j hj;omega) _,HG.out.lo,HG.out.up⟩
     exact h1.below (qAo _ _)
    have HGl:Hid (∀j,j<k→g j<wf.heap.size):=fun j hj=>(HG.out.row j hj).lt;have HZX:Hid (Rg X wf.heap.size 47 (m*6) (cel6 fun p c=>if p<0 then rowF x L k p c else 0)):=by
     show Rg _ _ _ _ _
     rw[hX];have:=Rg.made (ty:=47) (wf.setCell ⟨w2.heap.size,k,none⟩ (.slice (some ⟨wf.heap.size,0,none⟩) m m)) #[.int .i64 0,.int .i64 0,.int .i64 0,.int .i64 0,.int .i64 0,.int .i64 0] 6 m rfl (by omega);have e:(wf.setCell ⟨w2.heap.size,k,none⟩ (.slice (some ⟨wf.heap.size,0,none⟩) m m)).heap.size=wf.heap.size:=by simp[World.setCell]
     rw[e] at this;exact this.to fun i hi=>qIM (n:=m) i rfl
    have sX:X.heap.size=wf.heap.size+1:=by rw[hX];simp[World.setCell]
    clear hX M2 q1 q2 hcl'
    go_wp2_with fail
    go_loopw [41] (fun i wr=>∃p:Nat,p≤m∧i= .int .i64 (p:Nat)∧Only wf.heap.size X wr∧Rg wr wf.heap.size 47 (m*6) (cel6 fun a c=>if a<p then rowF x L k a c else 0)) (fun i _=>m-(intOf i).toNat)
    case atStart=>exact⟨0,qAq _,rfl,qBs _ _,HZX.out⟩
    case round=>
     obtain⟨y,eY⟩:∃y,y=wr:=⟨_,rfl⟩;subst eY;obtain⟨p,hp,rfl,hoy,hry⟩:=hrel;have HOy:=qAg hoy;have HRy:=qAg hry;have HBy:Hid (Below w2.heap.size w2 y):=qGA HBX.out hoy (Nat.le_of_lt hq2) HBX.out.size;have hsy:=hoy.size;clear hoy hry HZX
     by_cases hlp:p<m
     · obtain⟨⟨sn,st⟩,hsh⟩:∃sh,l[p]? =some sh:=⟨l[p]'(by rw[HLm.out];exact hlp),List.getElem?_eq_getElem _⟩
       obtain⟨i,hin⟩:∃i,fn.code[p]? =some i:=⟨fn.code[p]'(by rw[←HLe.out.len,HLm.out];exact hlp),List.getElem?_eq_getElem _⟩;obtain⟨a2,D2,c2,rfl,ha2,hb0,hb1,hc1,hc2,hn2,hst⟩:=qIg HSl.out hsh;have p1:(p:Int)<(m:Int):=by omega
       unfold maxLen at hc2;have hc2':c2≤9223372036854775807:=by omega
       have b0:=(HBy.out.cell (p:=a2.add (p*2)) (by rw[qAz];exact ha2)).trans hb0;have b1:=(HBy.out.cell (p:=⟨(a2.add (p*2)).block,(a2.add (p*2)).off+1,none⟩) (by simp only[qAz];exact ha2)).trans hb1;have HSh:=qAg hsh;have HIn:=qAg hin;have HSt:=qAg hst;simp only at b0 b1 hc1;clear hsh hin hst hb0 hb1
       go_upto_region 12 with(fail)
       refine qAs fun Y hY=> ?_;have HBY:Hid (Below y.heap.size y Y):=by show Below _ _ _;rw[hY];exact qAo y _
       have HBb:Hid (Blk Y y.heap.size 49 #[.bool sn,.slice D2 st.length c2]):=by show Blk _ _ _ _;rw[hY];exact qA9 rfl
       have sY:Y.heap.size=y.heap.size+1:=by rw[hY];simp
       clear hY b0 b1;have g0:=HBb.out.cell 0;have hwy:wf.heap.size<y.heap.size:=by omega
       cases sn
       · have HR0:Hid (∀c,rowF x L k p c=0):=fun c=>by rw[HRw.out];simp[regF,HSh.out]
         go_wp2_with fail
         refine⟨⟨p+1,by omega,by simp,qDQ HOy.out (HBY.out.mono hsy),((HRy.out.below HBY.out HRy.out.lt).to fun i hi=> ?_)⟩,by simp[intOf];omega⟩;simp only[cel6]
         by_cases e:i / 6=p
         · rw[e,if_neg (Nat.lt_irrefl _),if_pos (by omega),HR0.out]
         · by_cases e2:i / 6<p
           · rw[if_pos e2,if_pos (by omega)]
           · rw[if_neg e2,if_neg (by omega)]
       obtain⟨i',t,ks,hi',hins,-⟩:=HLe.out.ok p (by rw[←HLe.out.len,HLm.out];exact hlp) st (qA7 HSh.out);obtain rfl:i'=i:=by rw[HIn.out] at hi';injection hi' with hi';exact hi'.symm
       have hs8:st.length≤8:=(HLe.out.run.can p st (qA7 HSh.out)).2;obtain⟨r0,r1,r2,r3,r4,r5,hreg⟩:∃r0 r1 r2 r3 r4 r5,regB x fn i' st=[r0,r1,r2,r3,r4,r5]:=⟨_,_,_,_,_,_,rfl⟩;have CA:Hid (∀v,Below Y.heap.size Y v→Calls Tryz.prog 13 #[.agg #[.slice A0 n0 d0,.slice A1 n1 d1,.slice A2 n2 d2,.slice A3 n3 d3,.slice A4 n4 d4],.int .i64 (k:Int),.int .i64 (p:Int),.slice D2 st.length c2] v fun e w'=>e= .returned (.agg #[.int .i64 r0,.int .i64 r1,.int .i64 r2,.int .i64 r3,.int .i64 r4,.int .i64 r5])∧Below v.heap.size v w'):=fun v hv=>by
        have hv2:Below w2.heap.size w2 v:=HBy.out.trans ((HBY.out.trans (hv.mono (by omega))).mono HBy.out.size);have:=CM.out v k p D2 st.length c2 st fn i' t ks (HMd.out v hv2) HC.out HFn.out HIn.out rfl ((HSt.out.below hv2 (qAi _)).wide fun b hb=>qAh hb hv2.size) (by omega) hc1 hc2' hn2 hins;rw[hreg] at this;exact this
       have HQv:Hid (∀v,Below Y.heap.size Y v→Rg v w2.heap.size 45 n (celS (lenF L) (fun j=>if j=k then wf.heap.size else g j) (k+1))):=fun v hv=>((HQX.out.only HOy.out (by omega)).below HBY.out (by omega)).below hv (by omega);have HRv:Hid (∀v,Below Y.heap.size Y v→Rg v wf.heap.size 47 (m*6) (cel6 fun a c=>if a<p then rowF x L k a c else 0)):=fun v hv=>(HRy.out.below HBY.out (by omega)).below hv (by omega);have HLd:Hid (∀v,Below Y.heap.size Y v→v.cell? ⟨w.heap.size,0,none⟩=some (.slice A0 n0 d0)∧v.cell? ⟨w.heap.size,1,none⟩=some (.slice A1 n1 d1)∧v.cell? ⟨w.heap.size,2,none⟩=some (.slice A2 n2 d2)∧v.cell? ⟨w.heap.size,3,none⟩=some (.slice A3 n3 d3)∧v.cell? ⟨w.heap.size,4,none⟩=some (.slice A4 n4 d4)∧v.cell? ⟨w2.heap.size,k,none⟩=some (.slice (some ⟨wf.heap.size,0,none⟩) m m)∧v.cell? ⟨y.heap.size,1,none⟩=some (.slice D2 st.length c2)):=fun v hv=>by
        have hv2:Below w2.heap.size w2 v:=HBy.out.trans ((HBY.out.trans (hv.mono (by omega))).mono HBy.out.size);obtain⟨p0,p1,p2,p3,p4⟩:=HCV.out v (HB2.out.trans (hv2.mono hs2));have q:=(HQv.out v hv).cell hlt;simp only[celS,Nat.lt_succ_self,if_true,HLn.out] at q;exact⟨p0,p1,p2,p3,p4,q,(qAx HBb.out hv (by omega)).cell 1⟩
       have HON:Hid (∀v v',(v.cell? ⟨w.heap.size,0,none⟩=some (.slice A0 n0 d0)∧v.cell? ⟨w.heap.size,1,none⟩=some (.slice A1 n1 d1)∧v.cell? ⟨w.heap.size,2,none⟩=some (.slice A2 n2 d2)∧v.cell? ⟨w.heap.size,3,none⟩=some (.slice A3 n3 d3)∧v.cell? ⟨w.heap.size,4,none⟩=some (.slice A4 n4 d4)∧v.cell? ⟨w2.heap.size,k,none⟩=some (.slice (some ⟨wf.heap.size,0,none⟩) m m)∧v.cell? ⟨y.heap.size,1,none⟩=some (.slice D2 st.length c2))→Only wf.heap.size v v'→v'.cell? ⟨w.heap.size,0,none⟩=some (.slice A0 n0 d0)∧v'.cell? ⟨w.heap.size,1,none⟩=some (.slice A1 n1 d1)∧v'.cell? ⟨w.heap.size,2,none⟩=some (.slice A2 n2 d2)∧v'.cell? ⟨w.heap.size,3,none⟩=some (.slice A3 n3 d3)∧v'.cell? ⟨w.heap.size,4,none⟩=some (.slice A4 n4 d4)∧v'.cell? ⟨w2.heap.size,k,none⟩=some (.slice (some ⟨wf.heap.size,0,none⟩) m m)∧v'.cell? ⟨y.heap.size,1,none⟩=some (.slice D2 st.length c2)):=fun v v' h ho=>by
        have hk:∀(p:Addr) u,v.cell? p=some u→p.block≠wf.heap.size→v'.cell? p=some u:=fun p u hp hn=>by
         rw[←hp];unfold World.cell?;rw[ho.block _ (qAr v _ hp) (fun e=>hn (by injection e))]
        obtain⟨p0,p1,p2,p3,p4,p5,p6⟩:=h;exact⟨hk _ _ p0 zA,hk _ _ p1 zA,hk _ _ p2 zA,hk _ _ p3 zA,hk _ _ p4 zA,hk _ _ p5 zA,hk _ _ p6 zA⟩
       have HRr:Hid (∀c,rowF x L k p c=[r0,r1,r2,r3,r4,r5].getD c 0):=fun c=>by rw[HRw.out,←hreg];simp[regF,HSh.out,HIn.out]
       clear hins hreg hi';have SD:=qAg (HLd.out Y.drew (qAk _ Y).drew)
       go_wp2_with fail
       go_region_held3 (fun v=>v.cell? ⟨w.heap.size,0,none⟩=some (.slice A0 n0 d0)∧v.cell? ⟨w.heap.size,1,none⟩=some (.slice A1 n1 d1)∧v.cell? ⟨w.heap.size,2,none⟩=some (.slice A2 n2 d2)∧v.cell? ⟨w.heap.size,3,none⟩=some (.slice A3 n3 d3)∧v.cell? ⟨w.heap.size,4,none⟩=some (.slice A4 n4 d4)∧v.cell? ⟨w2.heap.size,k,none⟩=some (.slice (some ⟨wf.heap.size,0,none⟩) m m)∧v.cell? ⟨y.heap.size,1,none⟩=some (.slice D2 st.length c2))
        (first|with_reducible exact SS5.out|with_reducible exact SST.out _ _ _ _ _ _|with_reducible exact SD.out)
        (first
        |(go_at_call 13
          refine(CA.out _ (qAk _ Y).drew).mono ?_;rintro e w5 ⟨rfl,hb5⟩;have HB5:Hid (Below Y.heap.size Y w5):=(by show Below _ _ _;exact(qAk _ Y).drew.trans (hb5.mono (by simp)));have SS5:=qAg (HLd.out _ HB5.out);have SST:=qAg (fun(u0 u1 u2 u3 u4 u5:Value)=>HON.out w5 ((((((w5.setCell ⟨wf.heap.size,p*6,none⟩ u0).setCell ⟨wf.heap.size,p*6+1,none⟩ u1).setCell ⟨wf.heap.size,p*6+2,none⟩ u2).setCell ⟨wf.heap.size,p*6+3,none⟩ u3).setCell ⟨wf.heap.size,p*6+4,none⟩ u4).setCell ⟨wf.heap.size,p*6+5,none⟩ u5) SS5.out (qBA (qBA (qBA (qBA (qBA (qBA (qBs wf.heap.size w5) (p*6) u0) (p*6+1) u1) (p*6+2) u2) (p*6+3) u3) (p*6+4) u4) (p*6+5) u5));have RB:=HRv.out _ HB5.out;obtain⟨o0,y0⟩:∃u,w5.cell? ⟨wf.heap.size,p*6,none⟩=some u:=⟨_,RB.cell (by omega)⟩;obtain⟨o1,y1⟩:∃u,w5.cell? ⟨wf.heap.size,p*6+1,none⟩=some u:=⟨_,RB.cell (by omega)⟩;obtain⟨o2,y2⟩:∃u,w5.cell? ⟨wf.heap.size,p*6+2,none⟩=some u:=⟨_,RB.cell (by omega)⟩;obtain⟨o3,y3⟩:∃u,w5.cell? ⟨wf.heap.size,p*6+3,none⟩=some u:=⟨_,RB.cell (by omega)⟩;obtain⟨o4,y4⟩:∃u,w5.cell? ⟨wf.heap.size,p*6+4,none⟩=some u:=⟨_,RB.cell (by omega)⟩;obtain⟨o5,y5⟩:∃u,w5.cell? ⟨wf.heap.size,p*6+5,none⟩=some u:=⟨_,RB.cell (by omega)⟩;have f0:=RB.frozen (p*6);have f1:=RB.frozen (p*6+1);have f2:=RB.frozen (p*6+2);have f3:=RB.frozen (p*6+3);have f4:=RB.frozen (p*6+4);have f5:=RB.frozen (p*6+5);clear hb5 RB))
       simp only[Exit.inBlock,Exit.then]
       go_wp2_with fail
       have hoc:=qDQ HOy.out ((HBY.out.trans (HB5.out.mono (by omega))).mono hsy);have hRc:=HRv.out _ HB5.out;refine⟨⟨p+1,by omega,by simp,qBA (qBA (qBA (qBA (qBA (qBA hoc _ _) _ _) _ _) _ _) _ _) _ _,((((((hRc.set _ _).set _ _).set _ _).set _ _).set _ _).set _ _).to fun i hi=> ?_⟩,by simp[intOf];omega⟩;have hdiv:∀c,c<6→(i=p*6+c↔i / 6=p∧i % 6=c):=fun c hc=>by omega
       simp only[cel6]
       by_cases e:i / 6=p
       · have hm:i % 6=0∨i % 6=1∨i % 6=2∨i % 6=3∨i % 6=4∨i % 6=5:=by omega
         rw[e,if_pos (Nat.lt_succ_self p),HRr.out];have h0:(i=p*6)=(i % 6=0):=by rw[eq_iff_iff];omega
         have h1:(i=p*6+1)=(i % 6=1):=by rw[eq_iff_iff];omega
         have h2:(i=p*6+2)=(i % 6=2):=by rw[eq_iff_iff];omega
         have h3:(i=p*6+3)=(i % 6=3):=by rw[eq_iff_iff];omega
         have h4:(i=p*6+4)=(i % 6=4):=by rw[eq_iff_iff];omega
         have h5:(i=p*6+5)=(i % 6=5):=by rw[eq_iff_iff];omega
         simp only[h0,h1,h2,h3,h4,h5];rcases hm with e|e|e|e|e|e<;>rw[e]<;>rfl
       · rw[if_neg (by omega),if_neg (by omega),if_neg (by omega),if_neg (by omega),if_neg (by omega),if_neg (by omega)]
         by_cases e2:i / 6<p
         · rw[if_pos e2,if_pos (by omega)]
         · rw[if_neg e2,if_neg (by omega)]
     · obtain rfl:p=m:=by omega
       go_wp2_with fail
       refine⟨⟨k+1,by omega,by simp,HBy.out,_,HQX.out.only HOy.out (by omega),(HGX.out.only HOy.out fun j hj=>by have:=HGl.out j hj;omega).push (b:=wf.heap.size) hq2 HGl.out ?_⟩,by simp[intOf];omega⟩;rw[HLn.out];refine HRy.out.to fun i hi=> ?_;simp only[cel6];rw[if_pos (by omega)]
  · obtain rfl:k=n:=by omega
    go_wp2_with fail
    go_ret2;refine⟨HMd.out _ HBf.out,.inr (.inr (.inr ⟨HC.out,HM.out,L,w2.heap.size,g,HL.out,by rw[HN.out];rfl,by have:=HB2.out.size;omega,?_,?_⟩))⟩
    · rw[HN.out];exact HQ.out
    · rw[HN.out];exact HG.out
theorem qI1 (cs:List Value) (x:Mod) (j:Nat) (fn:Fn) (w:World) (h:modL.R (·<w.heap.size) w cs x) (hc:checkN x=0) (hfn:x.funcs[j]? =some fn):
 Calls Tryz.prog 11 #[vAgg cs,.int .i64 (j:Int)] w fun e w'=>e= .returned (.int .i64 ((fn.args.length+fn.locs.length+8:Nat):Int))∧Below w.heap.size w w':=by
 obtain⟨q1,q2,q3,-⟩:=qBR hc (qAl hfn);have hjl:=(qAj.1 hfn).1;have hn8:x.funcs.length≤8:=(qA1.1 (qAw hc)).f8;obtain⟨a,P0,c0,P1,c1,P2,c2,A0,A2,A3,A4,n0,n2,n3,n4,d0,d1,d2,d3,d4,rfl,hcl⟩:∃a P0 c0 P1 c1 P2 c2 A0 A2 A3 A4 n0 n2 n3 n4 d0 d1 d2 d3 d4,cs=[.slice A0 n0 d0,.slice (some a) x.funcs.length d1,.slice A2 n2 d2,.slice A3 n3 d3,.slice A4 n4 d4]∧∀v,Below w.heap.size w v→(v.cell? (a.add (j*5))=some (.slice P0 fn.args.length c0)∧v.cell? ⟨(a.add (j*5)).block,(a.add (j*5)).off+1,none⟩=some (.int .i64 fn.ret.1)∧v.cell? ⟨(a.add (j*5)).block,(a.add (j*5)).off+2,none⟩=some (.int .i64 fn.ret.2)∧v.cell? ⟨(a.add (j*5)).block,(a.add (j*5)).off+3,none⟩=some (.slice P1 fn.locs.length c1)∧v.cell? ⟨(a.add (j*5)).block,(a.add (j*5)).off+4,none⟩=some (.slice P2 fn.code.length c2)):=by
  have hk:0<fn.code.length:=by
   have:=(qA1.1 (qAw hc)).funcs _ (qAl hfn);simp only[fnOk,Bool.and_eq_true,qBH] at this
   omega
  obtain⟨A0,a,A2,A3,A4,n0,n2,n3,n4,d0,d1,d2,d3,d4,P0,P1,b,c0,c1,c2,e,hh⟩:=qHU (p:=0) (o:=(fn.code[0]'hk).1) (ia:=(fn.code[0]'hk).2.1) (ib:=(fn.code[0]'hk).2.2) h hfn (by rw[List.getElem?_eq_getElem hk]);exact⟨a,P0,c0,P1,c1,some b,c2,A0,A2,A3,A4,n0,n2,n3,n4,d0,d1,d2,d3,d4,e,fun v hv=>(hh v hv).1⟩
 obtain⟨n1,hn1⟩:∃n,x.funcs.length=n:=⟨_,rfl⟩;refine qAG ?_;intro ua hua ul hul uc huc;rw[hua,hul,huc] at hcl;rw[hua] at q1;rw[hul] at q2;rw[hn1] at hjl hn8⊢;rw[hua,hul];have HCl:=qAg hcl;have LC:=qAg (fun v=>qD7 P0 P1 P2 ua ul uc c0 c1 c2 fn.ret.1 fn.ret.2 v (by omega) (by omega));have hd:decide ((j:Int)<0)=false:=by simp
 have hd2:decide ((n1:Int)≤(j:Int))=false:=by simp;omega
 have k0:(0:Int)≤(j:Int):=by omega
 have k1:(j:Int)<(n1:Int):=by omega
 have hw1:IntKind.i64.wrap ((ua:Int)+(ul:Int)+8)=((ua+ul+8:Nat):Int):=by rw[qAv];omega
 clear h hc hfn hn1 hua hul huc hcl;simp only[vAgg]
 go_enter Tryz.func11,Tryz.ntmps11
 go_upto_region 3 with(fail)
 refine qAs fun W hW=> ?_;refine ju ?_;intro HBW;refine qAc ?_;intro HBx;clear hW;obtain⟨u0,u1,u2,u3,u4⟩:=HCl.out W HBW.out;have z1:=HBx.out.cell 1
 go_wp2_with (first
  |(go_at_call 21
    refine(LC.out W).mono ?_;rintro e w5 ⟨rfl,hb5⟩;have HB5:=qAg (HBW.out.trans (hb5.mono HBW.out.size));clear hb5))
 go_ret;exact⟨by simp[hw1],HB5.out⟩
theorem qGo {m:Mod} (hf:m.funcs=[fn]) (h:Least m fn l):LeastM m [l]:=by
 refine⟨by rw[hf];rfl,fun j fn' l' h1 h2=> ?_⟩;rw[hf] at h1
 match j,h1,h2 with
 |0,h1,h2=>simp at h1 h2;subst h1 h2;exact h
 |j+1,h1,h2=>simp at h1
def fn17:Fn:=⟨[],(1,0),[(1,0)],[(0,0,0),(26,0,0)]⟩
def m17:Mod:=⟨[],[fn17],[],[7],[]⟩
def l17:List Shape:=[(true,[]),(true,[(1,0)])]
theorem qDF:checkN m17=0:=by decide
theorem qJA:mainB m17=true:=by decide
theorem m17_least:LeastM m17 [l17]:=qGo (fn:=fn17) rfl (qE3 qDF (by simp[m17]) qr [0,1] l17 qr qr qr)
theorem qIT (w:World):Calls Tryz.prog 5 #[] w fun e w'=>e= .returned (.bool true)∧Below w.heap.size w w':=by
 go_enter Tryz.func5,Tryz.ntmps5
 go_wp2_with fail
 refine qBg fun W hW=> ?_;have b1:Blk W (w.heap.size+1) 57 #[.int .u64 7]:=by rw[hW];repeat(first|(refine qA9 ?_;simp;done)|refine qBG ?_)
 have bt:Blk W (w.heap.size+1+1) 41 #[.int .i64 1,.int .i64 0]:=by rw[hW];repeat(first|(refine qA9 ?_;simp;done)|refine qBG ?_)
 have b2:Blk W (w.heap.size+1+1+1) 52 #[.int .i64 0,.int .i64 0,.int .i64 0,.int .i64 26,.int .i64 0,.int .i64 0]:=by rw[hW];repeat(first|(refine qA9 ?_;simp;done)|refine qBG ?_)
 have b3:Blk W (w.heap.size+1+1+1+1) 44 #[.slice none 0 0,.int .i64 1,.int .i64 0,.slice (some ⟨w.heap.size+1+1,0,none⟩) 1 1,.slice (some ⟨w.heap.size+1+1+1,0,none⟩) 2 2]:=by rw[hW];repeat(first|(refine qA9 ?_;simp;done)|refine qBG ?_)
 have HB5:Hid (Blk W (w.heap.size+1+1+1+1+1) 28 #[.slice none 0 0,.slice (some ⟨w.heap.size+1+1+1+1,0,none⟩) 1 1,.slice none 0 0,.slice (some ⟨w.heap.size+1,0,none⟩) 1 1,.slice none 0 0]):=by show Blk _ _ _ _;rw[hW];repeat(first|(refine qA9 ?_;simp;done)|refine qBG ?_)
 have i64:∀k:Int,0≤k→k≤1000→I64 k:=fun k h1 h2=>⟨by omega,by omega⟩;have HL:Hid (modL.R (·<W.heap.size) W [.slice none 0 0,.slice (some ⟨w.heap.size+1+1+1+1,0,none⟩) 1 1,.slice none 0 0,.slice (some ⟨w.heap.size+1,0,none⟩) 1 1,.slice none 0 0] m17):=
  ⟨_,_,_,_,_,rfl,qCn _ _ _,qGl (x:=fn17) b3 b3.lt ⟨_,_,_,rfl,i64 _ qr qr,i64 _ qr qr,qCn _ _ _,qGl (L:=typL) (x:=(1,0)) bt bt.lt ⟨rfl,i64 _ qr qr,i64 _ qr qr⟩,qGM (L:=insL) (x:=(0,0,0)) (y:=(26,0,0)) (c0:=[.int .i64 0,.int .i64 0,.int .i64 0]) (c1:=[.int .i64 26,.int .i64 0,.int .i64 0]) b2 b2.lt rfl ⟨rfl,i64 _ qr qr,i64 _ qr qr,i64 _ qr qr⟩ ⟨rfl,i64 _ qr qr,i64 _ qr qr,i64 _ qr qr⟩⟩,qCn _ _ _,qGl (L:=numL) (x:=7) b1 b1.lt ⟨rfl,by decide⟩,qCn _ _ _⟩
 have HB0:Hid (Below w.heap.size w W):=by show Below _ _ _;rw[hW];exact(((((qAo w _).alloc (by simp) _).alloc qc _).alloc qc _).alloc qc _).alloc qc _
 clear hW b1 bt b2 b3;refine(qDU _ m17 W HL.out).mono ?_;intro e w1 hch;obtain⟨hb1,⟨h1,-⟩|⟨-,h1,-⟩|⟨-,-,h1,-⟩|⟨-,-,L,q,g,hL,rfl,hq,hR,hG⟩⟩:=hch
 · exact absurd qDF h1
 · exact absurd qJA (by rw[h1];decide)
 · exact absurd h1 m17_least.right.never
 obtain rfl:=m17_least.same hL;have HB1:=qAg (HB0.out.trans (hb1.mono HB0.out.size));have hbx:=qAx HB5.out hb1 HB5.out.lt;have r0:=hR.cell (i:=0) qr;have r1:=(hG.row 0 qr).cell (i:=9) qr;have r2:=(hG.row 0 qr).cell (i:=10) qr;rw[show celS (lenF [l17]) g [l17].length 0= .slice (some ⟨g 0,0,none⟩) 2 2 from rfl] at r0;rw[show cel6 (rowF m17 [l17] 0) 9= .int .i64 1 from congrArg (Value.int .i64) (by decide:rowF m17 [l17] 0 (9 / 6) (9 % 6)=1)] at r1;rw[show cel6 (rowF m17 [l17] 0) 10= .int .i64 1 from congrArg (Value.int .i64) (by decide:rowF m17 [l17] 0 (10 / 6) (10 % 6)=1)] at r2;have RY:Hid (Calls Tryz.prog 11 #[.agg #[.slice none 0 0,.slice (some ⟨w.heap.size+1+1+1+1,0,none⟩) 1 1,.slice none 0 0,.slice (some ⟨w.heap.size+1,0,none⟩) 1 1,.slice none 0 0],.int .i64 0] w1 fun e w'=>e= .returned (.int .i64 9)∧Below w1.heap.size w1 w'):=qI1 _ m17 0 fn17 w1 (qBS HL.out hb1) qDF rfl;have x0:=hbx.cell 0;have x1:=hbx.cell 1;have x2:=hbx.cell 2;have x3:=hbx.cell 3;have x4:=hbx.cell 4;simp only[List.length_cons,List.length_nil,Nat.zero_add];clear hL hR hG hb1 hbx hq
 go_wp2_with (first
  |(go_at_call 11
    refine RY.out.mono ?_;rintro e w5 ⟨rfl,hb5⟩;have HB6:=qAg (HB1.out.trans (hb5.mono HB1.out.size));clear hb5))
 go_ret;exact⟨rfl,HB6.out⟩
theorem qIH (h:Comp x w e w'):Below w.heap.size w w'∧((∃er:Int,e= .returned (.tuple #[.slice none 0 0,.int .i64 er])∧er≠0∧((checkN x≠0∧er=checkN x)∨(checkN x=0∧mainB x=false∧er=1)∨(checkN x=0∧mainB x=true∧NeverM x∧er=4)))∨
 (checkN x=0∧mainB x=true∧∃L q g,LeastM x L∧e= .returned (.tuple #[.slice (some ⟨q,0,none⟩) L.length L.length,.int .i64 0])∧w.heap.size≤q∧Rg w' q 45 L.length (celS (lenF L) g L.length)∧Regs q L.length (lenF L) (rowF x L) g w')):=by
 obtain⟨hb,⟨hc,rfl⟩|⟨hc,hm,rfl⟩|⟨hc,hm,hN,rfl⟩|h⟩:=h
 · exact⟨hb,.inl ⟨_,rfl,hc,.inl ⟨hc,rfl⟩⟩⟩
 · exact⟨hb,.inl ⟨1,rfl,by decide,.inr (.inl ⟨hc,hm,rfl⟩)⟩⟩
 · exact⟨hb,.inl ⟨4,rfl,by decide,.inr (.inr ⟨hc,hm,hN,rfl⟩)⟩⟩
 · exact⟨hb,.inr h⟩
theorem lenF_le {j:Nat} (hc:checkN x=0) (hL:LeastM x L) (hj:j<L.length):lenF L j≤64:=by
 obtain⟨l,hl,hLe⟩:=hL.get (j:=j) (fn:=x.funcs[j]'(by rw[←hL.len];exact hj)) (List.getElem?_eq_getElem _);simp only[lenF,hl,Option.getD_some];rw[hLe.len];exact(qBR hc (List.getElem_mem _)).2.2.1
end Go.Proofs.YtelceoecekfamaaGreat
