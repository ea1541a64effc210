/-
  The law StepDepth holds: a function that calls itself for ever comes to TrapDepth behind so many calls; the law's function returns true and turns nothing that was there.
  Conditions: none.
-/
import Derived.Test.YtgdbhanhmenmfaaGreatQ01
import Derived.Test.YtgdbhanhmenmfaaGreatQ36
import Derived.Test.YtgdbhanhmenmfaaGreatQ37
namespace Go.Proofs.YtgdbhanhmenmfaaGreat.stepDepth
open Go.ChangeShapes Go.WideShapes Go.ChangeAt Go.RowKit
set_option linter.unusedVariables false
set_option linter.unusedSimpArgs false
/-- Is the next instruction OpInt, OpCall or OpRet? -/
def fewB (m:Mod) (s:Stt):Bool:=match s.fr.reverse with
 |[]=>false
 |f::_=>(((m.funcs[f.fn.toNat]?).bind fun g=>g.code[f.pc.toNat]?).map fun i=>decide (i.1=0∨i.1=25∨i.1=26)).getD false
theorem does_few (K:Mch) {S:Nat→Prop} {s:Stt} {L:List (List Shape)} {g pc:Int} {lo stk:List Nat} {rest:List Frm} (hc:checkN K.m=0) (hL:RightM K.m L) (h:Going K.m L s ⟨g,pc,lo,stk⟩ rest) (hF:K.F=rest.reverse) {j p:Nat} {fn:Fn} {i:Ins} (hj:g=(j:Int)) (hp:pc=(p:Int)) (hfn:K.m.funcs[j]? =some fn) (hi:fn.code[p]? =some i) (ans:Nat) (ha:ans<B64) (hstk:∀x∈stk,x<B64) (hlo:∀x∈lo,x<B64) (hfew:i.1=0∨i.1=25∨i.1=26):
 Does K S s ⟨g,pc+1,lo,stk⟩ i ans (goS K.m s ⟨g,pc,lo,stk⟩ rest fn i ans):=by
 obtain⟨j',p',fn',l,u,a1,a2,a3,a4,a5,a6,a7⟩:=h.top
 simp only at a1 a2 a6 a7
 have ej:j'=j:=by omega
 subst ej
 rw[hfn] at a3
 injection a3 with a3
 subst a3
 have ep:p'=p:=by omega
 subst ep
 have hmem:=qBQ hfn
 have hmi:=qBQ hi
 obtain⟨f1,f2,f3,hcode⟩:=qCl hc hmem
 obtain⟨hg,hnm⟩:=hcode i hmi
 obtain⟨ins,outs,ks,hr,hle,hbe,hnx,hks⟩:=next_right hL hfn a4 a5 hi
 have htk:=take_of hr
 have hlen:=qEk a6
 have h8u:=(hL.at_ j' fn l hfn a4).2.1 _ (qBQ a5)
 simp only at h8u
 have hin:allB s (stk.drop (stk.length-ins.length)) ins=true:=by rw[hlen];exact qKb (allB_drop a6 _) hbe
 have hstl:(stk.take (stk.length-ins.length)).length≤900:=by rw[List.length_take];omega
 have hsp:stk=stk.take (stk.length-ins.length)++stk.drop (stk.length-ins.length):=(List.take_append_drop _ _).symm
 have hil:(stk.drop (stk.length-ins.length)).length=ins.length:=qEk hin
 generalize stk.take (stk.length-ins.length)=st at hsp hstl
 generalize stk.drop (stk.length-ins.length)=inn at hsp hin hil
 subst hsp
 have hi64:∀x∈inn,x<B64:=fun x hx=>hstk x (List.mem_append_right _ hx)
 rw[goS_cut (htk.trans hil.symm)]
 have hfl:s.fr.length=K.F.length+1:=by rw[h.fr,hF];simp
 have h8:K.F.length≤7:=by have:=h.len;omega
 have hl:=bdy_low hc h.body h.fin
 obtain⟨o,a,b⟩:=i
 obtain⟨no,na,nb,e1,e2,e3,g1,g2,g3,-⟩:=qBm hg
 simp only at e1 e2 e3
 subst e2 e3
 simp only[Int.toNat_natCast]
 have I64a:I64 (na:Int):=⟨by omega,by omega⟩
 rw[←hF]
 have hb:=h.body
 have hu:=hb.u1
 have hq2:=hb.q1
 rcases hfew with h|h|h<;>(simp only at h;obtain rfl:o=_:=h)
 · rw[if_neg (by decide),if_neg (by decide),if_neg (by decide),if_neg (by decide),if_neg (by decide),if_neg (by decide)]
   have hr':ins=[]:=by simp[ruleB] at hr;exact hr.1
   subst hr'
   obtain rfl:=qBY hil
   have e0:∀{W:World},Mf K S W s ⟨g,pc+1,lo,st++[]⟩→Mf K S W s ⟨g,pc+1,lo,st⟩:=fun h=>by rw[List.append_nil] at h;exact h
   have ha:na<K.m.ints.length:=by simpa[namedB] using hnm
   have hx:=List.getElem?_eq_getElem ha
   exact does_found K 0 na nb ans h8 (by decide) (by decide) hb hl hstl (t:=s) (en:=0) (v:=K.m.ints[na]) (outs:=[K.m.ints[na]]) (by simp[doS,at0,ha]) (.inl rfl) hl.f ⟨rfl,rfl,hb.u0,by omega⟩ (fun q=>absurd rfl q) (fun _=>rfl) (fun W hm=>(e0 hm).int hx) fun W hm hS=>found_0 K na nb W (e0 hm) hx hstl hl hS
 · rw[if_neg (by decide),if_neg (by decide),if_neg (by decide),if_neg (by decide)]
   rw[if_pos rfl]
   cases hq:K.m.funcs[na]? with
   |none=>simp[ruleB,hq] at hr
   |some q=>
    have hr':ins=q.args:=by simp[ruleB,hq] at hr;exact hr.1.symm
    subst hr'
    obtain⟨q1,q2,-,-⟩:=qCl hc (qBQ hq)
    simp only[Option.map_some,Option.getD_some]
    exact does_call K na nb ans hl hq hil hi64 (by omega) (by omega) (by omega) hstl h8 hfl
 · rw[if_neg (by decide),if_neg (by decide),if_neg (by decide),if_neg (by decide),if_neg (by decide)]
   rw[if_pos rfl]
   have hr':ins.length=1:=by simp[ruleB] at hr;rw[←hr.1];rfl
   obtain⟨x,rfl⟩:=len_one (hil.trans hr')
   exact does_ret K na nb ans hl (hi64 x (by simp)) hstl hF (qLK hL h.wait) h8
/-- Next of a state that goes on. -/
theorem mach_few {S:Nat→Prop} {m:Mod} {gm go gh:Nat} {P:Pr} {v:Value} {s:Stt} {L:List (List Shape)} (ans:Nat) (w:World) (h:Mc S m gm go gh P v w s) (hS:∀b,S b→b<w.heap.size) (hc:checkN m=0) (hL:RightM m L) (ht:typedB m L s=true) (h0:s.fin=0) (ha:ans<B64) (hfew:fewB m s=true):
 Calls Tryz.prog 18 #[.pointer (some ⟨gm,0,none⟩),.int .u64 (ans:Int)] w (NX m gm gh P S w (stepS m s ans).1 (stepS m s ans).2):=by
 obtain⟨f,rest,hg⟩:=Going.of hL ht h0
 obtain⟨j,p,fn,l,u,a1,a2,a3,a4,a5,a6,a7⟩:=id hg.top
 have hr:s.fr.reverse=f::rest:=by rw[hg.fr];simp
 obtain⟨hll,-,-⟩:=hL.at_ j fn l a3 a4
 have hpl:p<fn.code.length:=by rw[←hll];exact(qBM.1 a5).1
 have hi:fn.code[p]? =some fn.code[p]:=List.getElem?_eq_getElem hpl
 have e:stepS m s ans=goS m s f rest fn fn.code[p] ans:=by
  unfold stepS
  rw[hr]
  simp only[a1,Int.toNat_natCast,a3,a2,hi]
 rw[e]
 have hfw:fn.code[p].1=0∨fn.code[p].1=25∨fn.code[p].1=26:=by
  unfold fewB at hfew
  rw[hr] at hfew
  simpa only[a1,Int.toNat_natCast,a3,a2,hi,Option.getD_some,Option.bind_some,Option.map_some,decide_eq_true_eq] using hfew
 obtain⟨-,-,f3,-⟩:=qCl hc (qBQ a3)
 obtain⟨gF,c,A,cl,v1,rfl,-,-,-,-,-,-,-,-,-,-,-,-,-,-,x1,x2,-⟩:=h.top hg.fr
 obtain⟨g,pc,lo,stk⟩:=f
 simp only at a1 a2 x1 x2
 have hmf:Mf ⟨m,gm,go,gh,gF,c,P,rest.reverse⟩ S w s ⟨(j:Int),(p:Int),lo,stk⟩:=by
  have e2:({s with fr:=rest.reverse++[⟨(j:Int),(p:Int),lo,stk⟩]}:Stt)=s:=by rw[←a1,←a2,←hg.fr]
  show Mc S m gm go gh P (.slice (some ⟨gF,0,none⟩) (rest.reverse.length+1) c) w {s with fr:=rest.reverse++[⟨(j:Int),(p:Int),lo,stk⟩]}
  rw[e2]
  exact h
 have h8:rest.reverse.length≤7:=by have:=hg.len;rw[hg.fr] at this;simp at this ⊢;omega
 subst a1 a2
 obtain⟨t,en,hen,hq,hu,hr2,hdo⟩:=does_few (S:=S) ⟨m,gm,go,gh,gF,c,P,rest.reverse⟩ hc hL hg rfl rfl rfl a3 hi ans ha x2 x1 hfw
 have:=mnext_any ⟨m,gm,go,gh,gF,c,P,rest.reverse⟩ ans w hmf (by show rest.reverse.length≤900;omega) a3 hi (by omega) hen hS hq hu hdo
 rw[hr2] at this
 exact this
theorem on_few {N:Nat} {m:Mod} {L:List (List Shape)} {gm gh:Nat} {P:Pr} {s:Stt} {k:Nat} (ans:Nat) (w:World) (h:On N m L gm gh P w s k) (hc:checkN m=0) (hL:RightM m L) (ha:ans<B64) (hfew:s.fin=0→fewB m s=true) (ht:typedB m L (nextS m s ans).1=true) (hp:(nextS m s ans).1.hp.length≤s.hp.length+1):
 Calls Tryz.prog 18 #[.pointer (some ⟨gm,0,none⟩),.int .u64 (ans:Int)] w fun e w'=>∃A n c,e= .returned (.tuple #[.slice A n c,.bool (decide (s.fin=0))])∧On N m L gm gh P w' (nextS m s ans).1 (k+1)∧(slL evL).R (·<w'.heap.size) w' [.slice A n c] (nextS m s ans).2∧Below N w w':=by
 have hsz:=h.size
 have hb:=h
 obtain⟨⟨S,go,v,h1,h2⟩,h3,h4⟩:=h
 by_cases h0:s.fin=0
 · rw[decide_eq_true h0]
   unfold nextS at ht hp⊢
   rw[if_pos h0] at ht hp⊢
   refine(mach_few ans w h1 (fun b hb=>(h2 b hb).2) hc hL h3 h0 ha (hfew h0)).mono ?_
   rintro e w' ⟨A,n,c,T,v',go',rfl,hm,hT,hev,htr⟩
   refine⟨A,n,c,rfl,⟨⟨T,go',v',hm,fun b hb=> ?_⟩,ht,by omega⟩,(slL evL).wide hev fun b hb=>hb.2.2,⟨htr.os,htr.tape,htr.output,htr.size,fun b hb=>htr.block b (by omega) fun q=> ?_⟩⟩
   · have:=htr.size
     rcases hT b hb with q|q
     · have:=h2 b q;omega
     · omega
   · have:=h2 b q;omega
 · rw[decide_eq_false h0]
   unfold nextS at ht hp⊢
   rw[if_neg h0] at ht hp⊢
   refine(mnext_end ans w h1 ((qEo h3).2.2.2 h0)).mono ?_
   rintro e w' ⟨rfl,hbl⟩
   exact⟨none,0,0,rfl,(hb.below hbl).more (Nat.le_succ _),qEd _ _,hbl.mono hsz⟩
/-- Next of a state that is known. -/
theorem on_few_to {N:Nat} {m:Mod} {L:List (List Shape)} {gm gh:Nat} {P:Pr} {s t:Stt} {k ans:Nat} (hc:checkN m=0) (hL:RightM m L) (ha:ans<B64) (h0:s.fin=0) (ht:(nextS m s ans).1=t) (hfew:fewB m s=true) (hty:typedB m L t=true) (hp:t.hp.length≤s.hp.length+1) (w:World) (h:On N m L gm gh P w s k):
 Calls Tryz.prog 18 #[.pointer (some ⟨gm,0,none⟩),.int .u64 (ans:Int)] w fun e w'=>∃A n c,e= .returned (.tuple #[.slice A n c,.bool true])∧On N m L gm gh P w' t (k+1)∧Below N w w':=by
 refine(on_few ans w h hc hL ha (fun _=>hfew) (ht▸hty) (ht▸hp)).mono ?_
 rintro e w' ⟨A,n,c,rfl,ho,-,hb⟩
 rw[decide_eq_true h0]
 rw[ht] at ho
 exact⟨A,n,c,rfl,ho,hb⟩
theorem leastM_one {m:Mod} {fn:Fn} {l:List Shape} (hf:m.funcs=[fn]) (h:Least m fn l):LeastM m [l]:=by
 refine⟨by rw[hf];rfl,fun j f2 l2 h1 h2=> ?_⟩
 rw[hf] at h1
 match j,h1,h2 with
 |0,h1,h2=>simp at h1 h2;subst h1 h2;exact h
 |j+1,h1,h2=>simp at h1
def m9:Mod:=⟨[],[⟨[],(1,0),[],[(0,0,0),(26,0,0)]⟩],[],[7],[]⟩
def l9:List Shape:=[(true,[]),(true,[(1,0)])]
theorem m9_check:checkN m9=0:=by decide
theorem m9_main:mainB m9=true:=by decide
theorem m9_least:LeastM m9 [l9]:=leastM_one (fn:=⟨[],(1,0),[],[(0,0,0),(26,0,0)]⟩) rfl (reckon_least m9_check (by simp[m9]) (by decide) [0,1] l9 (by decide) (by decide) (by decide))
theorem b9_1:(nextS m9 (beginS 0 0) 0).1=⟨[⟨0,1,[],[7]⟩],[],[],0,0,0,0⟩:=by decide
theorem b9_2:(nextS m9 ⟨[⟨0,1,[],[7]⟩],[],[],0,0,0,0⟩ 0).1=⟨[],[],[],0,0,1,7⟩:=by decide
theorem begin_low (n:Nat) (q:Int) (hn:n≤1000):(beginS n q).low:=⟨by simp[beginS],by simp[beginS],by simp[beginS],fun f hf=>by simp[beginS] at hf;subst hf;exact⟨by simp;omega,by simp⟩,fun o ho=>by simp[beginS] at ho⟩
/-- Begin, then Load. -/
theorem begin_load (cs:List Value) (m:Mod) (fn:Fn) (fs:List Fn) (q:Int) (w:World) (h:modL.R (·<w.heap.size) w cs m) (hf:m.funcs=fn::fs) (hq:0≤q∧q≤65536) (hc:checkN m=0) (hm:mainB m=true) {L:List (List Shape)} (hL:LeastM m L):
 Calls Tryz.prog 23 #[vAgg cs,.int .i64 q] w fun e w1=>∃cs',e= .returned (vAgg cs')∧Below w.heap.size w w1∧Calls Tryz.prog 11 #[vAgg cs,vAgg cs'] w1 fun e w'=>∃gm gh P,e= .returned (.tuple #[.pointer (some ⟨gm,0,none⟩),.int .i64 0])∧On w.heap.size m L gm gh P w' (beginS fn.locs.length q) 0∧Below w.heap.size w w':=by
 have hl:fn.locs.length≤8:=(qCl hc (by rw[hf];simp)).2.1
 refine(rbegin_yes cs m fn fs q w h hf (by omega) ⟨by omega,by omega⟩).mono ?_
 rintro e w1 ⟨cs',rfl,hs,hb⟩
 refine⟨cs',rfl,hb,(on_load cs cs' m _ L w1 (modL.wide (modL.keep h fun b hb'=>hb.block b hb') fun b hb'=>qBN hb' hb.size) hs (begin_low _ q (by omega)) hc hm hL (begin_typed hm hL.right hf hq)).mono ?_⟩
 rintro e w' ⟨gm,gh,P,rfl,⟨⟨S,go,v,h1,h2⟩,h3⟩,hb'⟩
 exact⟨gm,gh,P,rfl,⟨⟨S,go,v,h1,fun b hb'=>⟨qBZ hb.size (h2 b hb').1,(h2 b hb').2⟩⟩,h3⟩,hb.trans (hb'.mono hb.size)⟩
set_option maxRecDepth 100000 in
set_option maxHeartbeats 4000000 in
theorem answers15 (w:World):Calls Tryz.prog 10 #[] w fun e w'=>e= .returned (.bool true)∧Below w.heap.size w w':=by
 go_enter Tryz.func10,Tryz.ntmps10
 go_upto_region 3 with(fail)
 refine qBV fun W hW=> ?_
 have b1:Blk W (w.heap.size+1) 32 #[.int .u64 7]:=by rw[hW];repeat(first|(refine qBl ?_;simp;done)|refine qBc ?_)
 have b2:Blk W (w.heap.size+1+1) 65 #[.int .i64 0,.int .i64 0,.int .i64 0,.int .i64 26,.int .i64 0,.int .i64 0]:=by rw[hW];repeat(first|(refine qBl ?_;simp;done)|refine qBc ?_)
 have b3:Blk W (w.heap.size+1+1+1) 70 #[.slice none 0 0,.int .i64 1,.int .i64 0,.slice none 0 0,.slice (some ⟨w.heap.size+1+1,0,none⟩) 2 2]:=by rw[hW];repeat(first|(refine qBl ?_;simp;done)|refine qBc ?_)
 have b4:Blk W (w.heap.size+1+1+1+1) 28 #[.slice none 0 0,.slice (some ⟨w.heap.size+1+1+1,0,none⟩) 1 1,.slice none 0 0,.slice (some ⟨w.heap.size+1,0,none⟩) 1 1,.slice none 0 0]:=by rw[hW];repeat(first|(refine qBl ?_;simp;done)|refine qBc ?_)
 have i64:∀k:Int,0≤k→k≤1000→I64 k:=fun k h1 h2=>⟨by omega,by omega⟩
 have hl:modL.R (·<W.heap.size) W [.slice none 0 0,.slice (some ⟨w.heap.size+1+1+1,0,none⟩) 1 1,.slice none 0 0,.slice (some ⟨w.heap.size+1,0,none⟩) 1 1,.slice none 0 0] m9:=
  ⟨_,_,_,_,_,rfl,qFo _ _ _,one_sl b3 b3.lt ⟨_,_,_,rfl,i64 _ (by decide) (by decide),i64 _ (by decide) (by decide),qFo _ _ _,qFo _ _ _,qJV (L:=insL) (x:=(0,0,0)) (y:=(26,0,0)) (c0:=[.int .i64 0,.int .i64 0,.int .i64 0]) (c1:=[.int .i64 26,.int .i64 0,.int .i64 0]) b2 b2.lt rfl ⟨rfl,i64 _ (by decide) (by decide),i64 _ (by decide) (by decide),i64 _ (by decide) (by decide)⟩ ⟨rfl,i64 _ (by decide) (by decide),i64 _ (by decide) (by decide),i64 _ (by decide) (by decide)⟩⟩,qFo _ _ _,one_sl (L:=numL) (x:=7) b1 b1.lt ⟨rfl,by decide⟩,qFo _ _ _⟩
 have HB0:Hid (Below w.heap.size w W):=by show Below _ _ _;rw[hW];exact(((((qBO _ _).alloc (qBL _) _).alloc (by simp) _).alloc (by simp<;>omega) _).alloc (by simp<;>omega) _).alloc (by simp<;>omega) _
 have HBL:Hid (Calls Tryz.prog 23 #[.agg #[.slice none 0 0,.slice (some ⟨w.heap.size+1+1+1,0,none⟩) 1 1,.slice none 0 0,.slice (some ⟨w.heap.size+1,0,none⟩) 1 1,.slice none 0 0],.int .i64 0] W.drew fun e w1=>∃cs',e= .returned (vAgg cs')∧Below W.drew.heap.size W.drew w1∧Calls Tryz.prog 11 #[.agg #[.slice none 0 0,.slice (some ⟨w.heap.size+1+1+1,0,none⟩) 1 1,.slice none 0 0,.slice (some ⟨w.heap.size+1,0,none⟩) 1 1,.slice none 0 0],vAgg cs'] w1 fun e w'=>∃gm gh P,e= .returned (.tuple #[.pointer (some ⟨gm,0,none⟩),.int .i64 0])∧On W.drew.heap.size m9 [l9] gm gh P w' (beginS 0 0) 0∧Below W.drew.heap.size W.drew w'):=
  begin_load _ m9 _ [] 0 W.drew hl rfl (by decide) m9_check m9_main m9_least
 have HK:Hid (∀V,Below W.heap.size W V→V.cell? ⟨w.heap.size+1+1+1+1,0,none⟩=some (.slice none 0 0)∧V.cell? ⟨w.heap.size+1+1+1+1,1,none⟩=some (.slice (some ⟨w.heap.size+1+1+1,0,none⟩) 1 1)∧V.cell? ⟨w.heap.size+1+1+1+1,2,none⟩=some (.slice none 0 0)∧V.cell? ⟨w.heap.size+1+1+1+1,3,none⟩=some (.slice (some ⟨w.heap.size+1,0,none⟩) 1 1)∧V.cell? ⟨w.heap.size+1+1+1+1,4,none⟩=some (.slice none 0 0)):=fun V hV=>by
  have q:=qBf b4 hV b4.lt
  exact⟨q.cell 0,q.cell 1,q.cell 2,q.cell 3,q.cell 4⟩
 have lt0:(0:Nat)<B64:=by unfold B64;omega
 clear hW b1 b2 b3 b4 hl
 obtain⟨d0,d1,d2,d3,d4⟩:=HK.out _ (qBO _ W).drew
 go_region_held3 (fun V=>V.cell? ⟨w.heap.size+1+1+1+1,0,none⟩=some (.slice none 0 0)∧V.cell? ⟨w.heap.size+1+1+1+1,1,none⟩=some (.slice (some ⟨w.heap.size+1+1+1,0,none⟩) 1 1)∧V.cell? ⟨w.heap.size+1+1+1+1,2,none⟩=some (.slice none 0 0)∧V.cell? ⟨w.heap.size+1+1+1+1,3,none⟩=some (.slice (some ⟨w.heap.size+1,0,none⟩) 1 1)∧V.cell? ⟨w.heap.size+1+1+1+1,4,none⟩=some (.slice none 0 0))
  (first
  |with_reducible exact⟨d0,d1,d2,d3,d4⟩
  |(have hz:=HB2.out;clear hz;with_reducible exact HK.out _ HB2.out)
  |with_reducible exact HK.out _ HB1.out)
  (first
  |(go_at_call 23
    refine HBL.out.mono ?_
    rintro e w1 ⟨cs',rfl,hb1,hld⟩
    have HLD:=qBK hld
    have HB1:Hid (Below W.heap.size W w1):=(qBO _ W).drew.trans hb1
    clear hb1 hld)
  |(go_at_call 11
    refine HLD.out.mono ?_
    rintro e w2 ⟨gm,gh,P,rfl,ho,hb2⟩
    have HO:=qBK ho
    have HB2:Hid (Below W.heap.size W w2):=(qBO _ W).drew.trans hb2
    clear ho hb2))
 go_wp2_with (first
  |(go_at_call 18
    refine(on_few_to (ans:=0) m9_check m9_least.right lt0 rfl b9_1 rfl (by decide) (by decide) _ HO.out).mono ?_
    rintro e w3 ⟨A3,n3,c3,rfl,ho3,hb3⟩
    have HO3:=qBK ho3
    have HB3:Hid (Below W.heap.size W w3):=HB2.out.trans (hb3.mono (qBL _))
    clear HO ho3 hb3)
  |(go_at_call 18
    refine(on_few_to (ans:=0) m9_check m9_least.right lt0 rfl b9_2 rfl (by decide) (by decide) _ HO3.out).mono ?_
    rintro e w4 ⟨A4,n4,c4,rfl,ho4,hb4⟩
    have HO4:=qBK ho4
    have HB4:Hid (Below W.heap.size W w4):=HB3.out.trans (hb4.mono (qBL _))
    clear HO3 ho4 hb4)
  |(go_at_call 16
    refine(on_state_to m9_check m9_least.right (by omega) _ HO4.out).mono ?_
    rintro e w5 ⟨F,cf,O,co,H,ch,rfl,hs,hb5⟩
    have HB5:Hid (Below W.heap.size W w5):=HB4.out.trans (hb5.mono HB4.out.size)
    clear hs hb5))
 go_ret
 exact⟨rfl,HB0.out.trans (HB5.out.mono HB0.out.size |>.alloc (by have:=HB0.out.size;have:=HB5.out.size;omega) _)⟩
def m11:Mod:=⟨[],[⟨[],(1,0),[],[(25,0,0),(26,0,0)]⟩],[],[1],[]⟩
def l11:List Shape:=[(true,[]),(true,[(1,0)])]
theorem m11_check:checkN m11=0:=by decide
theorem m11_main:mainB m11=true:=by decide
theorem m11_least:LeastM m11 [l11]:=leastM_one (fn:=⟨[],(1,0),[],[(25,0,0),(26,0,0)]⟩) rfl (reckon_least m11_check (by simp[m11]) (by decide) [0,1] l11 (by decide) (by decide) (by decide))
/-- Where so many calls of Next lead. -/
def dS:Nat→Stt
 |0=>beginS 0 10
 |k+1=>(nextS m11 (dS k) 0).1
theorem dS_at:∀k,k<12→(8≤k→(dS k).fin=6∧(dS k).fr.length=0)∧(k<8→(dS k).fin=0∧(dS k).fr.length=k+1):=by decide
theorem dS_few:∀k,k<12→(dS k).fin=0→fewB m11 (dS k)=true:=by decide
theorem dS_typed:∀k,k<12→typedB m11 [l11] (nextS m11 (dS k) 0).1=true:=by decide
theorem dS_hp:∀k,k<12→(nextS m11 (dS k) 0).1.hp.length≤(dS k).hp.length+1:=by decide
set_option maxRecDepth 100000 in
set_option maxHeartbeats 4000000 in
theorem walk (n:Int) (w:World) (hn:0≤n∧n≤255):
 Calls Tryz.prog 6 #[.int .u8 n] w fun e w'=>e= .returned (.bool true)∧Below w.heap.size w w':=by
 have AN:=qBK (fun w=>answers15 w)
 obtain⟨K,en,hK⟩:∃k:Nat,n % 12=(k:Int)∧k<12:=⟨(n % 12).toNat,by omega,by omega⟩
 go_enter Tryz.func6,Tryz.ntmps6
 go_upto_region 3 with(fail)
 refine qBV fun W hW=> ?_
 have b1:Blk W (w.heap.size+1) 32 #[.int .u64 1]:=by rw[hW];repeat(first|(refine qBl ?_;simp;done)|refine qBc ?_)
 have b2:Blk W (w.heap.size+1+1) 65 #[.int .i64 25,.int .i64 0,.int .i64 0,.int .i64 26,.int .i64 0,.int .i64 0]:=by rw[hW];repeat(first|(refine qBl ?_;simp;done)|refine qBc ?_)
 have b3:Blk W (w.heap.size+1+1+1) 70 #[.slice none 0 0,.int .i64 1,.int .i64 0,.slice none 0 0,.slice (some ⟨w.heap.size+1+1,0,none⟩) 2 2]:=by rw[hW];repeat(first|(refine qBl ?_;simp;done)|refine qBc ?_)
 have b4:Blk W (w.heap.size+1+1+1+1) 28 #[.slice none 0 0,.slice (some ⟨w.heap.size+1+1+1,0,none⟩) 1 1,.slice none 0 0,.slice (some ⟨w.heap.size+1,0,none⟩) 1 1,.slice none 0 0]:=by rw[hW];repeat(first|(refine qBl ?_;simp;done)|refine qBc ?_)
 have i64:∀k:Int,0≤k→k≤1000→I64 k:=fun k h1 h2=>⟨by omega,by omega⟩
 have hl:modL.R (·<W.heap.size) W [.slice none 0 0,.slice (some ⟨w.heap.size+1+1+1,0,none⟩) 1 1,.slice none 0 0,.slice (some ⟨w.heap.size+1,0,none⟩) 1 1,.slice none 0 0] m11:=
  ⟨_,_,_,_,_,rfl,qFo _ _ _,one_sl b3 b3.lt ⟨_,_,_,rfl,i64 _ (by decide) (by decide),i64 _ (by decide) (by decide),qFo _ _ _,qFo _ _ _,qJV (L:=insL) (x:=(25,0,0)) (y:=(26,0,0)) (c0:=[.int .i64 25,.int .i64 0,.int .i64 0]) (c1:=[.int .i64 26,.int .i64 0,.int .i64 0]) b2 b2.lt rfl ⟨rfl,i64 _ (by decide) (by decide),i64 _ (by decide) (by decide),i64 _ (by decide) (by decide)⟩ ⟨rfl,i64 _ (by decide) (by decide),i64 _ (by decide) (by decide),i64 _ (by decide) (by decide)⟩⟩,qFo _ _ _,one_sl (L:=numL) (x:=1) b1 b1.lt ⟨rfl,by decide⟩,qFo _ _ _⟩
 have HB0:Hid (Below w.heap.size w W):=by show Below _ _ _;rw[hW];exact(((((qBO _ _).alloc (qBL _) _).alloc (by simp) _).alloc (by simp<;>omega) _).alloc (by simp<;>omega) _).alloc (by simp<;>omega) _
 have HBL:Hid (Calls Tryz.prog 23 #[.agg #[.slice none 0 0,.slice (some ⟨w.heap.size+1+1+1,0,none⟩) 1 1,.slice none 0 0,.slice (some ⟨w.heap.size+1,0,none⟩) 1 1,.slice none 0 0],.int .i64 10] W.drew fun e w1=>∃cs',e= .returned (vAgg cs')∧Below W.drew.heap.size W.drew w1∧Calls Tryz.prog 11 #[.agg #[.slice none 0 0,.slice (some ⟨w.heap.size+1+1+1,0,none⟩) 1 1,.slice none 0 0,.slice (some ⟨w.heap.size+1,0,none⟩) 1 1,.slice none 0 0],vAgg cs'] w1 fun e w'=>∃gm gh P,e= .returned (.tuple #[.pointer (some ⟨gm,0,none⟩),.int .i64 0])∧On W.drew.heap.size m11 [l11] gm gh P w' (beginS 0 10) 0∧Below W.drew.heap.size W.drew w'):=
  begin_load _ m11 _ [] 10 W.drew hl rfl (by decide) m11_check m11_main m11_least
 have HK:Hid (∀V,Below W.heap.size W V→V.cell? ⟨w.heap.size+1+1+1+1,0,none⟩=some (.slice none 0 0)∧V.cell? ⟨w.heap.size+1+1+1+1,1,none⟩=some (.slice (some ⟨w.heap.size+1+1+1,0,none⟩) 1 1)∧V.cell? ⟨w.heap.size+1+1+1+1,2,none⟩=some (.slice none 0 0)∧V.cell? ⟨w.heap.size+1+1+1+1,3,none⟩=some (.slice (some ⟨w.heap.size+1,0,none⟩) 1 1)∧V.cell? ⟨w.heap.size+1+1+1+1,4,none⟩=some (.slice none 0 0)):=fun V hV=>by
  have q:=qBf b4 hV b4.lt
  exact⟨q.cell 0,q.cell 1,q.cell 2,q.cell 3,q.cell 4⟩
 have lt0:(0:Nat)<B64:=by unfold B64;omega
 clear hW b1 b2 b3 b4 hl
 obtain⟨d0,d1,d2,d3,d4⟩:=HK.out _ (qBO _ W).drew
 go_region_held3 (fun V=>V.cell? ⟨w.heap.size+1+1+1+1,0,none⟩=some (.slice none 0 0)∧V.cell? ⟨w.heap.size+1+1+1+1,1,none⟩=some (.slice (some ⟨w.heap.size+1+1+1,0,none⟩) 1 1)∧V.cell? ⟨w.heap.size+1+1+1+1,2,none⟩=some (.slice none 0 0)∧V.cell? ⟨w.heap.size+1+1+1+1,3,none⟩=some (.slice (some ⟨w.heap.size+1,0,none⟩) 1 1)∧V.cell? ⟨w.heap.size+1+1+1+1,4,none⟩=some (.slice none 0 0))
  (first
  |with_reducible exact⟨d0,d1,d2,d3,d4⟩
  |(have hz:=HB2.out;clear hz;with_reducible exact HK.out _ HB2.out)
  |with_reducible exact HK.out _ HB1.out)
  (first
  |(go_at_call 23
    refine HBL.out.mono ?_
    rintro e w1 ⟨cs',rfl,hb1,hld⟩
    have HLD:=qBK hld
    have HB1:Hid (Below W.heap.size W w1):=(qBO _ W).drew.trans hb1
    clear hb1 hld)
  |(go_at_call 11
    refine HLD.out.mono ?_
    rintro e w2 ⟨gm,gh,P,rfl,ho,hb2⟩
    have HO:=qBK ho
    have HB2:Hid (Below W.heap.size W w2):=(qBO _ W).drew.trans hb2
    clear ho hb2))
 go_wp2_with fail
 try simp only[en]
 clear en hn
 go_loopw [8] (fun vi wr=>∃k:Nat,k≤K∧vi= .int .i64 (k:Nat)∧On W.drew.heap.size m11 [l11] gm gh P wr (dS k) k∧Below W.heap.size W wr) (fun vi _=>K-(intOf vi).toNat)
 case atStart=>exact⟨0,qBU _,rfl,HO.out,HB2.out⟩
 case round=>
  obtain⟨k,hk,rfl,ho,hbel⟩:=hrel
  have HOr:=qBK ho
  have HBr:=qBK hbel
  clear ho hbel
  by_cases hlt:k<K
  · have h0:0≤(k:Int):=by omega
    have h1:(k:Int)<(K:Int):=by omega
    go_wp2_with (first
     |(go_at_call 18
       refine(on_few 0 _ HOr.out m11_check m11_least.right lt0 (dS_few k (by omega)) (dS_typed k (by omega)) (dS_hp k (by omega))).mono ?_
       rintro e w3 ⟨A3,n3,c3,rfl,ho3,-,hb3⟩
       have HO3:=qBK ho3
       have HB3:Hid (Below W.heap.size W w3):=HBr.out.trans (hb3.mono (qBL _))
       clear ho3 hb3))
    exact⟨⟨k+1,by omega,by simp,HO3.out,HB3.out⟩,by simp[intOf];omega⟩
  · obtain rfl:k=K:=by omega
    have h1:¬(k:Int)<(k:Int):=by omega
    obtain⟨hd8,hd0⟩:=dS_at k hK
    have HOS:=qBK (on_state_to m11_check m11_least.right (by omega) _ HOr.out)
    by_cases h8:8≤k
    · obtain⟨e1,e2⟩:=hd8 h8
      rw[e1,e2] at HOS
      have h8':(8:Int)≤(k:Int):=by omega
      clear hd8 hd0
      go_wp2_with (first
       |(go_at_call 16
         refine HOS.out.mono ?_
         rintro e w5 ⟨F,cf,O,co,H,ch,rfl,hs,hb5⟩
         have HB5:Hid (Below W.heap.size W w5):=HBr.out.trans (hb5.mono HBr.out.size)
         clear hs hb5)
       |(go_at_call 10
         refine(AN.out _).mono ?_
         rintro e w6 ⟨rfl,hb6⟩
         have hk6:=qBf (qBl rfl) hb6 (by simp)
         have x0:=hk6.cell 0
         have x5:=hk6.cell 5
         have HB6:Hid (Below W.heap.size W w6):=(HB5.out.alloc HB5.out.size _).trans (hb6.mono (by have:=HB5.out.size;simp;omega))
         clear hk6 hb6))
      go_ret
      exact⟨rfl,HB0.out.trans (HB6.out.mono HB0.out.size)⟩
    · obtain⟨e1,e2⟩:=hd0 (by omega)
      rw[e1,e2] at HOS
      have h8':¬(8:Int)≤(k:Int):=by omega
      have h9:IntKind.i64.wrap ((k:Int)+1)=(k:Int)+1:=by rw[qBi];omega
      clear hd8 hd0
      go_wp2_with (first
       |(go_at_call 16
         refine HOS.out.mono ?_
         rintro e w5 ⟨F,cf,O,co,H,ch,rfl,hs,hb5⟩
         have HB5:Hid (Below W.heap.size W w5):=HBr.out.trans (hb5.mono HBr.out.size)
         clear hs hb5)
       |(go_at_call 10
         refine(AN.out _).mono ?_
         rintro e w6 ⟨rfl,hb6⟩
         have hk6:=qBf (qBl rfl) hb6 (by simp)
         have x0:=hk6.cell 0
         have x5:=hk6.cell 5
         have HB6:Hid (Below W.heap.size W w6):=(HB5.out.alloc HB5.out.size _).trans (hb6.mono (by have:=HB5.out.size;simp;omega))
         clear hk6 hb6))
      go_ret
      exact⟨rfl,HB0.out.trans (HB6.out.mono HB0.out.size)⟩
set_option maxRecDepth 100000 in
theorem lifted (os:Os) (started:os.Started) (H:Type) (enc:TypeId×Value→H):
 ReturnsInHanded {} Tryz.checked os 6 .any (Rows.stepDepthSpec.pre6 enc Tryz.prog Tryz.f6 Rows.stepDepthRow.domain false) (Rows.stepDepthSpec.post enc Tryz.prog Tryz.f6 false true false false):=by
 refine returnsInHanded_of_change (C:=Tryz.checked) own started (by kernel_rfl) Tryz.func6
  (ChangeSpec.witness6 (enc:=enc) (C:=Tryz.checked) false ⟨#[],#[.int .u8 0],[]⟩ 8 (by kernel_rfl) (by kernel_rfl) (by kernel_rfl) (by kernel_rfl)) ?_
 intro W base args ds gs before hval0 hW hcnd _
 have hval:∀(j:Nat) t v,Tryz.f6.params[j]? =some t→args[j]? =some v→Value.okWide Tryz.prog W .any base t v:=hval0
 have hW':=hW
 obtain⟨p,q,hA0,hV,rfl,hfz,hnd⟩:=hW
 have hA:DataW.TrodAll enc Tryz.prog W 0 (fun _=>true) true Tryz.f6.params.toList args.toList ds p:=hA0
 rw[Tryz.params6] at hA hval
 obtain⟨v0,vs0,d0,ds0,p0,q0,hargs,rfl,rfl,h0,r0⟩:=trodAll_cons hA
 obtain⟨rfl,rfl,rfl⟩:=trodAll_nil r0
 obtain rfl:args= #[v0]:=by cases args;simp_all
 obtain⟨rfl,rfl⟩:=trodVars_none hV
 obtain⟨a0,rfl,rfl,rfl,w0⟩:=open_int Tryz.underlying5 (hval 0 5 v0 rfl rfl) h0
 clear hA0 hval0
 simp only[List.append_nil] at hW'
 refine(walk a0 W (bounds_u8 w0)).mono fun e W' ⟨he,bel⟩=> ?_
 subst he
 exact⟨_,rfl,_,_,_,[],_,[],hW',trodAll_mk1 (shut_bool Tryz.underlying4 _),(trodAll_cons_mk (shut_int Tryz.underlying5 w0) trodAll_mk0),rfl,bel.frame _,fun h=>by cases h⟩
theorem over:Rows.stepDepthRow.holds Tryz.pinned (OpenSpec.ofChange Rows.stepDepthSpec):=
 OpenClaim.holds_of_wide 6 Tryz.f6 rfl rfl rfl rfl rfl rfl rfl ⟨rfl,rfl,rfl,rfl,rfl⟩ rfl rfl rfl rfl rfl (by kernel_rfl) Tryz.func6 (by kernel_rfl)
  (of_decide_eq_true (by kernel_rfl)) (by unfold Func.isWrapper;first|(rw[if_pos (by decide +kernel)];kernel_rfl)|(rw[if_neg (by decide +kernel)];exact⟨rfl,rfl⟩))
  (fun os started H enc _=>lifted os started H enc)
/-- The statement. -/
theorem proved:Rows.StepDepthSaid:=over
end Go.Proofs.YtgdbhanhmenmfaaGreat.stepDepth
