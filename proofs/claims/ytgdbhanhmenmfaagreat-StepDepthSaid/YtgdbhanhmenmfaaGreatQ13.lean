/-
Mng Mfa Mfb Mfc Mfd Msq Msr Mst Msu Mnk Mnl Mno Mnp Mnq Gc0
-/
import Derived.Test.YtgdbhanhmenmfaaGreatQ02
import Derived.Test.YtgdbhanhmenmfaaGreatQ04
import Derived.Test.YtgdbhanhmenmfaaGreatQ11
import Derived.Test.YtgdbhanhmenmfaaGreatQ12
import Derived.Deep.DeepCutAuto
set_option linter.unusedSimpArgs false
set_option linter.unusedVariables false
set_option maxRecDepth 100000
set_option maxHeartbeats 1000000
namespace Go.Proofs.YtgdbhanhmenmfaaGreat
open Go.RowKit
variable {B:Nat}{L:List (List Shape)}{α:Type}{La:Lay α}{M N:Nat}{S:Nat→Prop}{en:Int}{es:List Evt}{f:Frm}{fn:Fn}{g:Int}{i:Ins}{inn:List Nat}{j k:Nat}{l:List Nat}{m:Mod}{n:Nat}{o:Ob}{pc:Int}{s:Stt}{st:List Nat}{t:Stt}{ty:Nat}{v:Value}{w:World}{x:Nat}{xs:List α}
theorem zG {P:Prop} (h:P:=by
 go_wp2_with fail
 go_ret;exact⟨none,0,[],rfl,rfl,World.ownsRow_nil _ _ _ _,fun j x cs h=>by simp at h,qBO _ _⟩):P:=h
def DN (K:Mch) (S:Nat→Prop) (w:World) (t:Stt) (en:Int) (es:List Evt) (e:Ending) (w':World):Prop:=
 ∃A k c T v',e= .returned (.tuple #[.slice A k c,.int .i64 en])∧Mc T K.m K.gm K.go K.gh K.P v' w' t∧(∀b,T b→Own S w w' b)∧(slL evL).R (fun b=>¬T b∧w.heap.size≤b∧b<w'.heap.size) w' [.slice A k c] es∧Trn S w w'
def NX (m:Mod) (gm gh:Nat) (P:Pr) (S:Nat→Prop) (w:World) (t:Stt) (es:List Evt) (e:Ending) (w':World):Prop:=
 ∃A k c T v' go',e= .returned (.tuple #[.slice A k c,.bool true])∧Mc T m gm go' gh P v' w' t∧(∀b,T b→Own S w w' b)∧(slL evL).R (fun b=>¬T b∧w.heap.size≤b∧b<w'.heap.size) w' [.slice A k c] es∧Trn S w w'
theorem Mc.size {gm go gh:Nat} {P:Pr} (h:Mc S m gm go gh P v w s):Mc (fun b=>S b∧b<w.heap.size) m gm go gh P v w s:=by
 obtain⟨tg,css,q⟩:=h;exact⟨tg,css,⟨fun b hb=>⟨q.own b hb,(q.own b hb).2⟩,q.blk,q.tgm,q.md,q.hp,q.tb,q.fr,q.ok⟩⟩
theorem mnext_nil (ans:Nat) (w:World):Calls Tryz.prog 18 #[.pointer none,.int .u64 (ans:Int)] w fun e w'=>e= .returned (.tuple #[.slice none 0 0,.bool false])∧Below w.heap.size w w':=by
 go_enter Tryz.func18,Tryz.ntmps18
 go_wp2_with (first
  |(go_at_call 40
    refine(qNW w).mono ?_;rintro e w1 ⟨rfl,hb1⟩;have HB1:=qBK hb1;clear hb1))
 go_ret2;exact⟨rfl,HB1.out.alloc HB1.out.size _⟩
theorem mnext_end {gm go gh:Nat} {P:Pr} (ans:Nat) (w:World) (h:Mc S m gm go gh P v w s) (hs:s.fr=[]):Calls Tryz.prog 18 #[.pointer (some ⟨gm,0,none⟩),.int .u64 (ans:Int)] w fun e w'=>e= .returned (.tuple #[.slice none 0 0,.bool false])∧Below w.heap.size w w':=by
 have HN:=qBK (qNX w h hs);clear h hs
 go_enter Tryz.func18,Tryz.ntmps18
 go_wp2_with (first
  |(go_at_call 40
    refine HN.out.mono ?_;rintro e w1 ⟨rfl,hb1⟩;have HB1:=qBK hb1;clear hb1))
 go_ret2;exact⟨rfl,HB1.out.alloc HB1.out.size _⟩
theorem qNS {T:Nat→Prop} {w2 w3:World} (h2:Trn S w w2) (hT:∀b,T b→Own S w2 w3 b) (hev:(slL evL).R (fun b=>¬T b∧w2.heap.size≤b∧b<w3.heap.size) w3 [v] es) (h3:Trn S w2 w3):
 (∀b,T b→Own S w w3 b)∧(slL evL).R (fun b=>¬T b∧w.heap.size≤b∧b<w3.heap.size) w3 [v] es∧Trn S w w3:=
 ⟨fun b hb=>qEq h2.size b (hT b hb),(slL evL).wide hev fun b hb=>⟨hb.1,qBZ h2.size hb.2.1,hb.2.2⟩,h2.trans h3 fun _ _ q=>q⟩
theorem nx_end {T:Nat→Prop} {w3 w5:World} {g:Nat} {u:Value} (hT:∀b,T b→Own S w w3 b) (hev:(slL evL).R (fun b=>¬T b∧w.heap.size≤b∧b<w3.heap.size) w3 [v] es) (h3:Trn S w w3) (hg:T g) (h5:Trn T (w3.setCell ⟨g,10,none⟩ u) w5):
 (∀b,Own T (w3.setCell ⟨g,10,none⟩ u) w5 b→Own S w w5 b)∧(slL evL).R (fun b=>¬Own T (w3.setCell ⟨g,10,none⟩ u) w5 b∧w.heap.size≤b∧b<w5.heap.size) w5 [v] es∧Trn S w w5:=by
 have hs:(w3.setCell ⟨g,10,none⟩ u).heap.size=w3.heap.size:=by simp[World.setCell]
 have s5:=h5.size;rw[hs] at s5;have s3:=h3.size;refine⟨fun b hb=> ?_,(slL evL).wide ((slL evL).keep hev fun b hb=>(h5.block b (by rw[hs];exact hb.2.2) hb.1).trans (qBP _ _ _ _ fun(e:b=g)=>hb.1 (by rw[e];exact hg))) fun b hb=>⟨fun q=>q.elim hb.1 fun q=>by rw[hs] at q;omega,hb.2.1,by omega⟩,⟨h5.os.trans h3.os,h5.tape.trans h3.tape,h5.output.trans h3.output,by omega,fun b hb hn=> ?_⟩⟩
 · rcases hb with hb|hb
   · rcases hT b hb with q|q
     · exact .inl q
     · exact .inr ⟨q.1,by omega⟩
   · rw[hs] at hb
     exact .inr ⟨by omega,hb.2⟩
 · have hnT:¬T b:=fun q=>(hT b q).elim hn fun q=>by omega
   exact((h5.block b (by rw[hs];omega) hnT).trans (qBP _ _ _ _ fun(e:b=g)=>hnT (by rw[e];exact hg))).trans (h3.block b hb hn)
theorem mnext_any (K:Mch) {p:Nat} (ans:Nat) (w:World) (h:Mf K S w s ⟨(j:Int),(p:Int),l,st⟩) (h8:K.F.length≤900) (hfn:K.m.funcs[j]? =some fn) (hi:fn.code[p]? =some i) (hp:p≤100000) (hen:en=0∨(2≤en∧en≤7)∨en=1) (hS:∀b,S b→b<w.heap.size)
 (hq:0≤t.quota∧t.quota≤65536) (hu:0≤t.used∧t.used≤65536)
 (hdo:∀W,Mf K S W s ⟨(j:Int),(p:Int)+1,l,st⟩→(∀b,S b→b<W.heap.size)→Calls Tryz.prog 42 #[.pointer (some ⟨K.gm,0,none⟩),.agg #[.int .i64 i.1,.int .i64 i.2.1,.int .i64 i.2.2],.int .u64 (ans:Int)] W (DN K S W t en es)):
 Calls Tryz.prog 18 #[.pointer (some ⟨K.gm,0,none⟩),.int .u64 (ans:Int)] w (NX K.m K.gm K.gh K.P S w (if en=0 then t else {t with fr:=[],hp:=[],fin:=en}) es):=by
 have HN:=qBK (qNY K w h (by omega) rfl rfl hfn hi);have HLA:=qBK (fun V (hV:Mf K S V s ⟨(j:Int),(p:Int),l,st⟩)=>qDP K V hV (by omega));have HDO:=qBK hdo;have HS:=qBK hS;have hw:IntKind.i64.wrap ((p:Int)+1)=(p:Int)+1:=by rw[qBi];omega
 clear h hfn hi hdo hS;obtain⟨o,a,b⟩:=i
 go_enter Tryz.func18,Tryz.ntmps18
 go_upto_region 2 with(first
  |(go_at_call 40
    refine HN.out.mono ?_;rintro e w1 ⟨rfl,hm1,hb1⟩;have HM1:=qBK hm1;have HB1:=qBK hb1;clear hm1 hb1))
 refine qBV fun W hW=> ?_;have hb:Below w1.heap.size w1 W:=by rw[hW];exact(qBO _ _).alloc (qBL _) _
 have hk:Blk W w1.heap.size 65 #[.int .i64 o,.int .i64 a,.int .i64 b]:=by rw[hW];exact qBl rfl
 have hnS:¬S w1.heap.size:=fun q=>by have:=HS.out _ q;have:=HB1.out.size;omega
 have HK:Hid (∀V,Trn S W V→V.cell? ⟨w1.heap.size,0,none⟩=some (.int .i64 o)∧V.cell? ⟨w1.heap.size,1,none⟩=some (.int .i64 a)∧V.cell? ⟨w1.heap.size,2,none⟩=some (.int .i64 b)):=fun V hV=>by
  have hk':=qK3 hk hnS hV;exact⟨hk'.cell 0,hk'.cell 1,hk'.cell 2⟩
 have HMW:Hid (Mf K S W s ⟨(j:Int),(p:Int),l,st⟩):=HM1.out.below hb;have HTW:Hid (Trn S w W):=(Trn.of_below HB1.out).then hb
 have HSW:Hid (∀b,S b→b<W.heap.size):=fun b hb'=>by have h1:=HS.out b hb';have h2:=HB1.out.size;have h3:=hb.size;omega
 clear hW hb hk hnS
 by_cases h0:en=0
 · rw[if_pos h0]
   subst h0
   go_wp2_with (first
    |(go_at_call 41
      refine(HLA.out _ HMW.out).mono ?_;rintro e w2 ⟨rfl,hm2,hb2⟩;obtain⟨hg,hsg,p0,pf,hset,-⟩:=hm2.loc0;refine jh ?_;intro p0 ht x0 x1 x2 HM2 HT2 HS2;clear hm2 hb2 hset ht)
    |(go_at_call 42
      refine(HDO.out _ HM2.out HS2.out).mono ?_;rintro e w3 ⟨A,k,c,T,v',rfl,hm3,hT3,hev3,ht3⟩;obtain⟨-,hsg3,hfz3,-,-,-,-,-,c10,⟨A4,c4,rfl,-⟩,-⟩:=hm3.cells;refine qAZ ?_;intro f10 HG3 HM3 hTb HTB HR3;clear hm3 hT3 hev3 ht3 hTb hsg3 hfz3))
   go_ret2;exact⟨A,k,c,T,_,_,rfl,HM3.out,HR3.out⟩
 · rw[if_neg h0]
   have h0':(en==0)=false:=by simpa using h0
   have h0'':(en != 0)=true:=by simpa using h0
   go_wp2_with (first
    |(go_at_call 41
      refine(HLA.out _ HMW.out).mono ?_;rintro e w2 ⟨rfl,hm2,hb2⟩;obtain⟨hg,hsg,p0,pf,hset,-⟩:=hm2.loc0;refine jh ?_;intro p0 ht x0 x1 x2 HM2 HT2 HS2;clear hm2 hb2 hset ht)
    |(go_at_call 42
      refine(HDO.out _ HM2.out HS2.out).mono ?_;rintro e w3 ⟨A,k,c,T,v',rfl,hm3,hT3,hev3,ht3⟩;obtain⟨-,hsg3,hfz3,-,-,-,-,-,c10,⟨A4,c4,rfl,-⟩,-⟩:=hm3.cells;refine qAZ ?_;intro f10 HG3 HM3 hTb HTB HR3;clear hm3 hT3 hev3 ht3 hTb hsg3 hfz3)
    |(go_at_call 43
      refine(qKJ en _ HM3.out.bare hq hu ⟨by omega,by omega⟩ (fun b hb=>by have:=HTB.out b hb;simpa[World.setCell] using this)).mono ?_;rintro e w5 ⟨rfl,⟨go',hm5⟩,ht5⟩;have HM5:=qBK hm5;have HT5:=qBK ht5;clear hm5 ht5))
   go_ret2;obtain⟨r1,r2,r3⟩:=HR3.out;exact⟨A,k,c,_,_,go',rfl,HM5.out,nx_end r1 r2 r3 HG3.out HT5.out⟩
theorem found_0 (K:Mch) {fn:Int} (a:Nat) (b:Int) (w:World) (h:Mf K S w s ⟨fn,pc,l,st⟩) (hx:K.m.ints[a]? =some x) (hst:st.length≤900) (hl:Low s) (hS:∀b,S b→b<w.heap.size):
 Calls Tryz.prog 144 #[.pointer (some ⟨K.gm,0,none⟩),.pointer (some ⟨K.gF,K.F.length*4,none⟩),.agg #[.int .i64 0,.int .i64 (a:Int),.int .i64 b]] w (FD K S w s fn pc l st x 0):=by
 have HL:=qBK hl;have HF:=qBK (qFv h hS 0 (a:Int) b);clear h hl hS
 go_enter Tryz.func144,Tryz.ntmps144
 go_upto_region 1 with(fail)
 refine qBV fun W hW=> ?_;obtain⟨hm0,he,hc⟩:=HF.out W hW;have HM:=qBK hm0;have HE:=qBK he;have HC:=qBK hc;obtain⟨c0,c1,c2⟩:=hc W (Trn.refl _ _);have g0:=hm0.gm.2.1;obtain⟨A,c,c8,ca,ha⟩:=hm0.ints hx;have ha':(a:Int)<(K.m.ints.length:Int):=by omega
 clear HF hW hm0 he hc
 go_wp2_with fail
 go_quiet (fail)
 go_wp2_with fail
 go_ret2;exact⟨rfl,HE.out _ _ _ ⟨(HM.out.below (qBj _ _)).wide fun b hb=> .inl hb,Trn.of_below (qBj _ _)⟩⟩
structure Bdy (m:Mod) (s:Stt):Prop where
 q0:0≤s.quota
 q1:s.quota≤65536
 u0:0≤s.used
 u1:s.used≤s.quota
 no:s.hp.length≤4096
 nh:s.hn.length≤16
 hn:∀h∈s.hn,handB h=true
 hp:∀o∈s.hp,objB m s o=true
theorem qNR (h:Ext s t) (ho:objB m s o=true):objB m t o=true:=by
 unfold objB at ho⊢;split
 · rename_i h2;rw[if_pos h2] at ho;exact ho
 · rename_i h2
   rw[if_neg h2] at ho;split
   · rename_i h3;rw[if_pos h3] at ho;exact ho
   · rename_i h3
     rw[if_neg h3] at ho;split
     · rename_i h4
       rw[if_pos h4] at ho;split
       · rename_i h5;rw[if_pos h5] at ho;cases ho
       · rename_i h5
         rw[if_neg h5] at ho
         cases e:m.recs[o.n.toNat]? with
         |none=>rw[e] at ho;cases ho
         |some r=>
          rw[e] at ho;simp only[Bool.and_eq_true] at ho⊢;exact⟨ho.1,qOp h ho.2⟩
     · rename_i h4;rw[if_neg h4] at ho;cases ho
structure Did (m:Mod) (s:Stt) (r:Stt×List Nat) (outs:List Typ):Prop where
 body:Bdy m r.1
 ext:Ext s r.1
 fr:r.1.fr=s.fr
 quota:r.1.quota=s.quota
 val:r.1.val=s.val
 fin:r.1.fin=0∨(2≤r.1.fin∧r.1.fin≤7)
 outs:r.1.fin=0→allB r.1 r.2 outs=true
theorem Bdy.of (h:Bdy m s) (e1:t.hp=s.hp) (e2:t.hn=s.hn) (e3:t.quota=s.quota) (e4:t.used=s.used):Bdy m t:=
 ⟨by rw[e3];exact h.q0,by rw[e3];exact h.q1,by rw[e4];exact h.u0,by rw[e3,e4];exact h.u1,by rw[e1];exact h.no,by rw[e2];exact h.nh,by rw[e2];exact h.hn,fun o ho=>qNR (Ext.refl e1 e2) (h.hp o (by rw[←e1];exact ho))⟩
theorem qLi (h:o.kind=2):objB m s o=decide (o.n=0∧o.words.length=0∧o.bytes.length≤64):=by simp[objB,h]
theorem qIV (h:o.kind=3):objB m s o=decide (o.n=0∧o.words.length≤64∧o.bytes.length=0):=by simp[objB,h]
theorem qLj (h:o.kind=4) (ho:objB m s o=true):∃r,0≤o.n∧m.recs[o.n.toNat]? =some r∧o.bytes.length=0∧allB s o.words r=true:=by
 unfold objB at ho;simp only[h] at ho;simp at ho;obtain⟨h1,h2⟩:=ho
 cases e:m.recs[o.n.toNat]? with
 |none=>rw[e] at h2;cases h2
 |some r=>
  rw[e] at h2;simp at h2;exact⟨r,h1,rfl,by simp[h2.1],h2.2⟩
def topOK (m:Mod) (L:List (List Shape)) (s:Stt) (f:Frm):Prop:=
 ∃(j p:Nat) (fn:Fn) (l:List Shape) (u:List Typ),f.fn=(j:Int)∧f.pc=(p:Int)∧m.funcs[j]? =some fn∧L[j]? =some l∧l[p]? =some (true,u)∧allB s f.stk u=true∧allB s f.locs (fn.args++fn.locs)=true
def waitOK (m:Mod) (L:List (List Shape)) (s:Stt) (g:Frm) (gf:Int):Prop:=
 ∃(j p:Nat) (fn:Fn) (l:List Shape) (u u':List Typ) (i:Ins) (h:Fn),g.fn=(j:Int)∧g.pc=(p:Int)+1∧m.funcs[j]? =some fn∧L[j]? =some l∧l[p]? =some (true,u)∧l[p+1]? =some (true,u')∧fn.code[p]? =some i∧i.1=25∧i.2.1=gf∧m.funcs[gf.toNat]? =some h∧
  allB s g.stk (u.take (u.length-h.args.length))=true∧allB s g.locs (fn.args++fn.locs)=true
def waits (m:Mod) (L:List (List Shape)) (s:Stt):Int→List Frm→Prop
 |_,[]=>True
 |gf,g::r=>waitOK m L s g gf∧waits m L s g.fn r
theorem qCp (l:List α) (x:α) (k:Nat):(l++[x])[k]? =if k<l.length then l[k]? else if k=l.length then some x else none:=by
 split
 · rename_i h;rw[List.getElem?_append_left h]
 · rename_i h
   rw[List.getElem?_append_right (by omega)];split
   · rename_i e;simp[e]
   · rename_i e
     rw[List.getElem?_eq_none qK]
theorem qGV {m:Mod} {L:List (List Shape)} {s:Stt}:∀(r:List Frm) (x:Frm),waits m L s x.fn r↔∀(k:Nat) (g h:Frm),(r.reverse++[x])[k]? =some g→(r.reverse++[x])[k+1]? =some h→waitOK m L s g h.fn
 |[],x=>by
  refine⟨fun _ k g h h1 h2=> ?_,fun _=>trivial⟩;simp at h2
 |y::r,x=>by
  rw[List.reverse_cons];simp only[waits];rw[qGV r y];have hlen:(r.reverse++[y]).length=r.length+1:=by simp
  constructor
  · rintro⟨h1,h2⟩ k g h e1 e2
    rw[qCp,hlen] at e1 e2;rcases Nat.lt_trichotomy k r.length with hk|hk|hk
    · rw[if_pos (by omega)] at e1 e2
      exact h2 k g h e1 e2
    · subst hk
      rw[if_pos (by omega),qCp,if_neg (by simp),if_pos (by simp)] at e1;rw[if_neg (by omega),if_pos rfl] at e2;injection e1 with e1;injection e2 with e2;subst e1 e2;exact h1
    · rw[if_neg (by omega),if_neg (by omega)] at e2
      cases e2
  · intro h
    refine⟨h r.length y x ?_ ?_,fun k g q e1 e2=>h k g q ?_ ?_⟩
    · rw[qCp,hlen,if_pos (by omega),qCp,if_neg (by simp),if_pos (by simp)]
    · rw[qCp,hlen,if_neg (by omega),if_pos rfl]
    · rw[qCp,hlen,if_pos (by have:=(qBM.1 e1).1;omega)]
      exact e1
    · rw[qCp,hlen,if_pos (by have:=(qBM.1 e2).1;omega)]
      exact e2
theorem qL7 (hL:RightM m L) (hf:s.fr[k]? =some f) (hk:s.fr.length=k+1) (h:frameB m L s k=true):topOK m L s f:=by
 cases hs:stackB m L s k with
 |none=>rw[qED hf hs] at h;cases h
 |some ts=>
  have hs':=hs;rw[qE4 hf hk] at hs';obtain⟨j,p,fn,l,i,e1,e2,hfn,hl,hp,hi,-⟩:=qDU hL hs';rw[qDa hf hs (by rw[e1];exact hfn),Bool.and_eq_true] at h;exact⟨j,p,fn,l,ts,e1,e2,hfn,hl,hp,h.1,h.2⟩
theorem qKC {g:Frm} (hL:RightM m L) (hg:s.fr[k]? =some g) (hf:s.fr[k+1]? =some f) (h:frameB m L s k=true):waitOK m L s g f.fn:=by
 cases hs:stackB m L s k with
 |none=>rw[qED hg hs] at h;cases h
 |some ts=>
  obtain⟨u',hu'⟩:=qHJ hg hs;obtain⟨j,p1,fn,l,i1,e1,e2,hfn,hl,hp1,hi1,-⟩:=qDU hL hu';have hs':=hs;rw[qE3 hg hf hu'] at hs'
  cases hb:atB L g.fn (g.pc-1) with
  |none=>rw[qG7 hb] at hs';cases hs'
  |some u=>
   obtain⟨j',p,fn',l',i,e3,e4,hfn',hl',hp,hi,-⟩:=qDU hL hb;have ej:j'=j:=by omega
   subst ej;rw[hfn] at hfn';injection hfn' with hfn';subst hfn';rw[hl] at hl';injection hl' with hl';subst hl';have ep:g.pc=(p:Int)+1:=by omega
   have ep1:p1=p+1:=by omega
   subst ep1;rw[e1,ep,qG8 hfn hl hp hi] at hs';split at hs'
   · rename_i hc
     cases hq:m.funcs[f.fn.toNat]? with
     |none=>rw[hq] at hs';cases hs'
     |some q=>
      rw[hq] at hs';injection hs' with hs';rw[qDa hg hs (by rw[e1];exact hfn),Bool.and_eq_true,←hs'] at h;exact⟨j',p,fn,l,u,u',i,q,e1,ep,hfn,hl,hp,hp1,hi,hc.1,hc.2,hq,h.1,h.2⟩
   · cases hs'
structure Going (m:Mod) (L:List (List Shape)) (s:Stt) (f:Frm) (rest:List Frm):Prop where
 body:Bdy m s
 fin:s.fin=0
 val:s.val=0
 fr:s.fr=rest.reverse++[f]
 len:s.fr.length≤8
 first:s.fr.head?.map Frm.fn=some 0
 top:topOK m L s f
 wait:waits m L s f.fn rest
theorem qOh (h1:countB s=true) (h2:s.hn.all handB=true) (h3:s.hp.all (objB m s)=true):Bdy m s:=by
 simp only[countB,decide_eq_true_eq] at h1;exact⟨h1.1,h1.2.1,h1.2.2.1,h1.2.2.2.1,h1.2.2.2.2.2.2.2.1,h1.2.2.2.2.2.2.2.2,List.all_eq_true.1 h2,List.all_eq_true.1 h3⟩
theorem Going.of (hL:RightM m L) (h:typedB m L s=true) (h0:s.fin=0):∃f rest,Going m L s f rest:=by
 have h':=h;simp only[typedB,Bool.and_eq_true] at h';obtain⟨⟨⟨h1,h2⟩,h3⟩,h4⟩:=h';have hc:=h1;simp only[countB,decide_eq_true_eq] at hc;unfold endB at h4;rw[if_neg (by simp[h0])] at h4;simp only[Bool.and_eq_true,decide_eq_true_eq,List.all_eq_true] at h4;obtain⟨⟨hv,hf⟩,ha⟩:=h4
 cases e:s.fr.reverse with
 |nil=>
  have:s.fr=[]:=by rw[←List.reverse_reverse s.fr,e];rfl
  rw[this] at hf
  cases hf
 |cons f rest=>
  have hfr:s.fr=rest.reverse++[f]:=by rw[←List.reverse_reverse s.fr,e];simp
  have hlen:s.fr.length=rest.length+1:=by rw[hfr];simp
  have hfirst:s.fr.head?.map Frm.fn=some 0:=by
   cases q:s.fr with
   |nil=>rw[q] at hf;cases hf
   |cons x xs=>rw[q] at hf;simpa using hf
  have hget:s.fr[rest.length]? =some f:=by rw[hfr,qCp,if_neg (by simp),if_pos (by simp)]
  refine⟨f,rest,qOh h1 h2 h3,h0,hv,hfr,hc.2.2.2.2.2.2.1,hfirst,qL7 hL hget hlen (ha _ (List.mem_range.2 (by omega))),(qGV rest f).2 fun k g h e1 e2=> ?_⟩;rw[←hfr] at e1 e2;exact qKC hL e1 e2 (ha _ (List.mem_range.2 (qBM.1 e1).1))
theorem next_right (hL:RightM m L) {p:Nat} {l:List Shape} {u:List Typ} (hf:m.funcs[j]? =some fn) (hl:L[j]? =some l) (hp:l[p]? =some (true,u)) (hi:fn.code[p]? =some i):
 ∃ins outs ks,ruleB m fn i u=some (ins,outs)∧ins.length≤u.length∧belowT (u.drop (u.length-ins.length)) ins=true∧nextB fn i p=some ks∧∀q∈ks,∃u',l[q.toNat]? =some (true,u')∧belowT (u.take (u.length-ins.length)++outs) u'=true:=by
 obtain⟨hll,-,hr⟩:=hL.at_ j fn l hf hl;have hpl:p<fn.code.length:=(qBM.1 hi).1;obtain⟨i',t,ks,h1,h2,h3⟩:=hr.at_ p hpl u (qBx hp);rw[hi] at h1;injection h1 with h1;subst h1;unfold insB8 at h2
 cases e:ruleB m fn i u with
 |none=>rw[e] at h2;simp at h2
 |some io=>
  obtain⟨ins,outs⟩:=io;rw[e] at h2;simp only at h2;unfold movB at h2;split at h2
  · simp at h2
  · rename_i t' hb
    split at hb
    · rename_i hc
      injection hb with hb
      cases e2:nextB fn i p with
      |none=>rw[e2] at h2;simp at h2
      |some ks'=>
       rw[e2] at h2;simp only[Prod.mk.injEq,true_and] at h2;obtain⟨h4,h5⟩:=h2;subst h4 h5;refine⟨ins,outs,ks',rfl,hc.1,hc.2.2,rfl,fun q hq=> ?_⟩;obtain⟨r,hr1,hr2⟩:=h3 q hq _ rfl;rw[←hb] at hr2;exact⟨r,qDJ hr1,hr2⟩
    · cases hb
theorem take_of {u ins outs:List Typ} (h:ruleB m fn i u=some (ins,outs)):takeN m fn i=ins.length:=by
 unfold takeN
 by_cases h6:i.1=6
 · rw[if_pos (.inl h6)]
   cases hu:u.reverse with
   |nil=>simp[ruleB,h6,hu] at h
   |cons x q=>simp[ruleB,h6,hu] at h;rw[←h.1];rfl
 by_cases h41:i.1=41
 · rw[if_pos (.inr h41)]
   cases hu:u.reverse with
   |nil=>simp[ruleB,h41,hu] at h
   |cons x q=>simp[ruleB,h41,hu] at h;rw[←h.2.1];rfl
 rw[if_neg (by omega)]
 by_cases h7:i.1=7
 · rw[if_pos h7]
   cases hu:u.reverse with
   |nil=>simp[ruleB,h7,hu] at h
   |cons x q=>
    cases q with
    |nil=>simp[ruleB,h7,hu] at h
    |cons y q=>simp[ruleB,h7,hu] at h;rw[←h.1];rfl
 rw[if_neg h7];have e:ruleB m fn i []=ruleB m fn i u:=by
  unfold ruleB;rw[if_neg h6,if_neg h7,if_neg h41,if_neg h6,if_neg h7,if_neg h41]
 rw[e,h]
def Does (K:Mch) (S:Nat→Prop) (s:Stt) (f:Frm) (i:Ins) (ans:Nat) (r:Stt×List Evt):Prop:=
 ∃t en,(en=0∨(2≤en∧en≤7)∨en=1)∧(0≤t.quota∧t.quota≤65536)∧(0≤t.used∧t.used≤65536)∧(if en=0 then t else {t with fr:=[],hp:=[],fin:=en})=r.1∧
  ∀W,Mf K S W s f→(∀b,S b→b<W.heap.size)→Calls Tryz.prog 42 #[.pointer (some ⟨K.gm,0,none⟩),.agg #[.int .i64 i.1,.int .i64 i.2.1,.int .i64 i.2.2],.int .u64 (ans:Int)] W (DN K S W t en r.2)
theorem qK8 (h:¬t.fin=0):endS t={t with fr:=[],hp:=[]}:=if_neg h
theorem qOW (h:t.fin=0):endS t=t:=if_pos h
theorem qEd (P:Nat→Prop) (w:World):(slL evL).R P w [.slice none 0 0] []:=⟨none,0,rfl,qBL _,by simp[maxLen],fun h=>absurd h (Nat.lt_irrefl _)⟩
theorem does_wn (K:Mch) {r:Stt} {f2:Frm} (o a b:Int) (ans:Nat) (h8:K.F.length≤900) (ho:o≠27∧o≠25∧o≠26) (hen:en=0∨(2≤en∧en≤7)∨en=1) (hq:0≤t.quota∧t.quota≤65536) (hu:0≤t.used∧t.used≤65536)
 (hr:(if en=0 then {t with fr:=K.F++[f2]} else {t with fr:=[],hp:=[],fin:=en})=r)
 (hw:∀W,Mf K S W s f→(∀b,S b→b<W.heap.size)→Calls Tryz.prog 80 #[.pointer (some ⟨K.gm,0,none⟩),.pointer (some ⟨K.gF,K.F.length*4,none⟩),.agg #[.int .i64 o,.int .i64 a,.int .i64 b]] W (WN K S W t f2 en)):
 Does K S s f (o,a,b) ans (r,[]):=
 ⟨{t with fr:=K.F++[f2]},en,hen,hq,hu,hr,fun W h hS=>(qMH K o a b ans W h h8 ho hS hw).mono fun e w' q=>by
   obtain⟨rfl,hm,ht⟩:=q;exact⟨none,0,0,_,_,rfl,hm,fun b hb=>hb,qEd _ _,ht⟩⟩
theorem qMG (K:Mch) {st2 outs:List Nat} (o a b:Int) (ans:Nat) (h8:K.F.length≤900) (ho:o≠27∧o≠25∧o≠26) (hb:Bdy m s)
 (hd:doS m s (o,a,b) inn ans=(if en=0 then t else trapS s en,outs,[])) (hk:en=0∨(2≤en∧en≤7)) (ht:t.fin=0) (hq:t.quota=s.quota∧t.val=s.val∧0≤t.used∧t.used≤65536) (hn:en≠0→t.hn=s.hn∧t.used=s.used) (h2:en=0→st2=st++outs)
 (hw:∀W,Mf K S W s ⟨g,pc,l,st++inn⟩→(∀b,S b→b<W.heap.size)→Calls Tryz.prog 80 #[.pointer (some ⟨K.gm,0,none⟩),.pointer (some ⟨K.gF,K.F.length*4,none⟩),.agg #[.int .i64 o,.int .i64 a,.int .i64 b]] W (WN K S W t ⟨g,pc,l,st2⟩ en)):
 Does K S s ⟨g,pc,l,st++inn⟩ (o,a,b) ans (endS {(doS m s (o,a,b) inn ans).1 with fr:=K.F++[⟨g,pc,l,st++(doS m s (o,a,b) inn ans).2.1⟩]},(doS m s (o,a,b) inn ans).2.2):=by
 rw[hd];refine does_wn K o a b ans h8 ho (hk.elim .inl fun q=> .inr (.inl q)) (by rw[hq.1];exact⟨hb.q0,hb.q1⟩) hq.2.2 ?_ hw
 by_cases h0:en=0
 · rw[if_pos h0,if_pos h0,h2 h0]
   exact(qOW (t:={t with fr:=K.F++[⟨g,pc,l,st++outs⟩]}) ht).symm
 · rw[if_neg h0,if_neg h0]
   obtain⟨n1,n2⟩:=hn h0;have e:=qK8 (t:={trapS s en with fr:=K.F++[⟨g,pc,l,st++outs⟩]}) h0;refine Eq.trans ?_ e.symm;exact Stt.eq_of rfl rfl n1 hq.1 n2 rfl hq.2.1
theorem does_found (K:Mch) {outs:List Nat} {v:Nat} (o a b:Int) (ans:Nat) (h8:K.F.length≤7) (ho:o≠27∧o≠25∧o≠26) (ho2:o≠4∧o≠5∧o≠6∧o≠7∧o≠22∧o≠23∧o≠24∧o≠30∧o≠33∧o≠37∧o≠41) (hb:Bdy m s) (hl:Low s) (hst:st.length≤900)
 (hd:doS m s (o,a,b) inn ans=(if en=0 then t else trapS s en,outs,[])) (hk:en=0∨(2≤en∧en≤7)) (ht:t.fin=0) (hq:t.quota=s.quota∧t.val=s.val∧0≤t.used∧t.used≤65536) (hn:en≠0→t.hn=s.hn∧t.used=s.used) (h2:en=0→outs=[v])
 (hv:∀W,Mf K S W s ⟨g,pc,l,st++inn⟩→v<B64)
 (hf:∀W,Mf K S W s ⟨g,pc,l,st++inn⟩→(∀b,S b→b<W.heap.size)→Calls Tryz.prog 144 #[.pointer (some ⟨K.gm,0,none⟩),.pointer (some ⟨K.gF,K.F.length*4,none⟩),.agg #[.int .i64 o,.int .i64 a,.int .i64 b]] W (FD K S W t g pc l st v en)):
 Does K S s ⟨g,pc,l,st++inn⟩ (o,a,b) ans (endS {(doS m s (o,a,b) inn ans).1 with fr:=K.F++[⟨g,pc,l,st++(doS m s (o,a,b) inn ans).2.1⟩]},(doS m s (o,a,b) inn ans).2.2):=
 qMG K o a b ans (by omega) ho hb hd hk ht hq hn (st2:=if en=0 then st++[v] else st) (fun h0=>by rw[if_pos h0,h2 h0]) fun W hm hS=>qJS K o a b W hm ho2 (hv W hm) hf hst hl hS
theorem Mf.ob {K:Mch} (h:Mf K S w s f) (hj:s.hp[j]? =some o):(∀x∈o.words,x<B64)∧∀x∈o.bytes,x<256:=by
 obtain⟨tg,css,q⟩:=h;obtain⟨v,css',tag,-,-,-,h1,-,-,h4⟩:=q.hp;have hj':j<css'.length:=by rw[h1];exact(qBM.1 hj).1
 obtain⟨v0,v1,-,-,-,a,b,-⟩:=h4 j o _ hj (List.getElem?_eq_getElem hj');exact⟨a,b⟩
theorem Mf.int {K:Mch} (h:Mf K S w s f) {a:Nat} (hx:K.m.ints[a]? =some x):x<B64:=by
 obtain⟨⟨v0,v1,v2,v3,v4,e,r0,r1,r2,⟨A,c,e3,-,-,hs⟩,r4⟩,-⟩:=h.prog;exact qEP hs x (qBQ hx)
theorem len_one (h:l.length=1):∃x,l=[x]:=by
 match l,h with
 |[x],_=>exact⟨x,rfl⟩
structure AddIs (s:Stt) (A:Stt×List Nat):Prop where
 d:(A.1,A.2,([]:List Evt))=(if A.1.fin=0 then {A.1 with fin:=s.fin} else trapS s A.1.fin,A.2,[])
 k:A.1.fin=0∨(2≤A.1.fin∧A.1.fin≤7)
 q:A.1.quota=s.quota∧A.1.val=s.val∧0≤A.1.used∧A.1.used≤65536
 n:A.1.fin≠0→A.1.hn=s.hn∧A.1.used=s.used
 o:A.1.fin=0→A.2=[at0 A.2 0]
 v:at0 A.2 0≤s.hp.length+1
theorem qLV (hc:checkN m=0) {r:List Typ} (h:m.recs[k]? =some r):r.length≤6∧k<8:=by
 have hf:=qBw.1 (qBo hc);have h1:=hf.recs r (qBQ h);simp only[recOk,qB0] at h1;have h2:=(qBM.1 h).1;have h3:=hf.r8
 omega
theorem bdy_low (hc:checkN m=0) (h:Bdy m s) (h0:s.fin=0):Low s:=by
 have hu:=h.u1;have hq:=h.q1;refine⟨⟨h.q0,hq⟩,⟨h.u0,by omega⟩,h.no,h.nh,fun o ho=> ?_,h0⟩;have hb:=h.hp o ho
 by_cases h2:o.kind=2
 · rw[qLi h2] at hb
   have:=of_decide_eq_true hb;exact⟨by omega,by omega⟩
 by_cases h3:o.kind=3
 · rw[qIV h3] at hb
   have:=of_decide_eq_true hb;exact⟨by omega,by omega⟩
 by_cases h4:o.kind=4
 · obtain⟨r,-,hr,h5,h6⟩:=qLj h4 hb
   have:=qLV hc hr;have:=qEk h6;exact⟨by omega,by omega⟩
 · simp[objB,h2,h3,h4] at hb
def retS (s:Stt) (x:Nat):List Frm→Stt×List Evt
 |[]=>({s with fr:=[],hp:=[],fin:=1,val:=x},[])
 |f::r=>({s with fr:=r.reverse++[⟨f.fn,f.pc,f.locs,f.stk++[x]⟩]},[])
theorem goS_cut {rest:List Frm} {ans:Nat} (h:takeN m fn i=inn.length):
 goS m s ⟨g,pc,l,st++inn⟩ rest fn i ans=
  if i.1=3 then ({s with fr:=(rest.reverse++[⟨g,pc+1,l,st++[at0 l i.2.1.toNat]⟩])},[])
  else if i.1=4 then ({s with fr:=rest.reverse++[⟨g,pc+1,l.set i.2.1.toNat (at0 inn 0),st⟩]},[])
  else if i.1=23 then ({s with fr:=rest.reverse++[⟨g,i.2.1,l,st⟩]},[])
  else if i.1=24 then ({s with fr:=rest.reverse++[⟨g,if at0 inn 0=0 then i.2.1 else pc+1,l,st⟩]},[])
  else if i.1=25 then (if s.fr.length=8 then (endS (trapS s 6),[]) else ({s with fr:=rest.reverse++[⟨g,pc+1,l,st⟩,⟨i.2.1,0,inn++List.replicate (((m.funcs[i.2.1.toNat]?).map fun g=>g.locs.length).getD 0) 0,[]⟩]},[]))
  else if i.1=26 then retS s (at0 inn 0) rest
  else (endS {(doS m s i inn ans).1 with fr:=rest.reverse++[⟨g,pc+1,l,st++(doS m s i inn ans).2.1⟩]},(doS m s i inn ans).2.2):=by
 have e:(st++inn).length-takeN m fn i=st.length:=by rw[h,List.length_append];omega
 unfold goS;simp only[e,List.take_left,List.drop_left]
 cases rest<;>rfl
theorem does_call (K:Mch) (a:Nat) (b:Int) (ans:Nat) (hl:Low s) (hg:K.m.funcs[a]? =some fn) (hlen:inn.length=fn.args.length) (hin:∀x∈inn,x<B64) (h1:fn.args.length≤100) (h2:fn.locs.length≤100) (ha:a≤1000) (hst:st.length≤900) (h8:K.F.length≤7) (hfl:s.fr.length=K.F.length+1):
 Does K S s ⟨g,pc,l,st++inn⟩ (25,(a:Int),b) ans (if s.fr.length=8 then (endS (trapS s 6),[]) else ({s with fr:=K.F++[⟨g,pc,l,st⟩,⟨a,0,inn++List.replicate fn.locs.length 0,[]⟩]},[])):=by
 by_cases h7:s.fr.length=8
 · rw[if_pos h7]
   refine⟨{s with fr:=K.F++[⟨g,pc,l,st++inn⟩]},6,.inr (.inl qp),hl.q,hl.u,?_,fun W hm hS=> ?_⟩
   · rw[if_neg qp]
     exact(qK8 (t:=trapS s 6) (show ¬(6:Int)=0 by decide)).symm
   · refine(qLA K (Q:=fun en w'=>en=6∧Mf K S w' s ⟨g,pc,l,st++inn⟩∧Trn S W w') a b ans W hm (by omega) hS fun V hb hV=>(qMT K a V hV (by omega) (by omega)).mono ?_).mono ?_
     · rintro e w' ⟨rfl,rfl⟩
       exact⟨6,rfl,rfl,hV,Trn.of_below hb⟩
     · rintro e w' ⟨en,rfl,rfl,hm',ht⟩
       exact⟨none,0,0,S,_,rfl,hm',fun b hb=> .inl hb,qEd _ _,ht⟩
 · rw[if_neg h7]
   refine⟨{s with fr:=(K.F++[⟨g,pc,l,st⟩])++[⟨a,0,inn++List.replicate fn.locs.length 0,[]⟩]},0,.inl rfl,hl.q,hl.u,?_,fun W hm hS=> ?_⟩
   · rw[if_pos rfl,List.append_assoc]
     rfl
   · refine(qLA K (Q:=fun en w'=>en=0∧(∃gF' c',Mf {K with F:=K.F++[⟨g,pc,l,st⟩],gF:=gF',c:=c'} (Own S W w') w' s ⟨a,0,inn++List.replicate fn.locs.length 0,[]⟩)∧Trn S W w') a b ans W hm (by omega) hS fun V hb hV=>(qOf K a V hV hg hlen hin h1 h2 ha (by omega) hst fun c hc=>qBN (hS c hc) hb.size).mono ?_).mono ?_
     · rintro e w' ⟨rfl,⟨gF,c,hm'⟩,ht⟩
       have hbt:Trn S W V:=Trn.of_below hb;exact⟨0,rfl,rfl,⟨gF,c,hm'.wide fun c hc=>qEq hb.size c hc⟩,hbt.trans ht fun _ _ q=>q⟩
     · rintro e w' ⟨en,rfl,rfl,⟨gF,c,hm'⟩,ht⟩
       exact⟨none,0,0,_,_,rfl,hm',fun b hb=>hb,qEd _ _,ht⟩
theorem does_ret (K:Mch) {rest:List Frm} (a b:Int) (ans:Nat) (hl:Low s) (hx:x<B64) (hst:st.length≤900) (hF:K.F=rest.reverse) (hw:∀f∈rest,f.stk.length≤900) (h8:K.F.length≤7):
 Does K S s ⟨g,pc,l,st++[x]⟩ (26,a,b) ans (retS s x rest):=by
 cases rest with
 |nil=>
  refine⟨{s with fr:=[],val:=x},1,.inr (.inr rfl),hl.q,hl.u,by rw[if_neg qp];rfl,fun W hm hS=> ?_⟩;refine(qOZ K (Q:=fun en w'=>en=1∧Mc S K.m K.gm K.go K.gh K.P (.slice (some ⟨K.gF,0,none⟩) 0 K.c) w' {s with fr:=[],val:=x}∧Trn S W w') a b ans W hm (by omega) hS fun V hb hV=>(qNA K V hV (by rw[hF];rfl) hx hst).mono ?_).mono ?_
  · rintro e w' ⟨rfl,hm',ht⟩
    have hbt:Trn S W V:=Trn.of_below hb;exact⟨1,rfl,rfl,hm',hbt.trans ht fun _ _ q=>q⟩
  · rintro e w' ⟨en,rfl,rfl,hm',ht⟩
    exact⟨none,0,0,S,_,rfl,hm',fun b hb=> .inl hb,qEd _ _,ht⟩
 |cons f r=>
  rw[List.reverse_cons] at hF;refine⟨{s with fr:=r.reverse++[{f with stk:=f.stk++[x]}]},0,.inl rfl,hl.q,hl.u,by rw[if_pos rfl];rfl,fun W hm hS=> ?_⟩;refine(qOZ K (Q:=fun en w'=>en=0∧Mf {K with F:=r.reverse} (Own S W w') w' s {f with stk:=f.stk++[x]}∧Trn S W w') a b ans W hm (by omega) hS fun V hb hV=>(qM9 K V hV hF hx hst (hw f (by simp)) (by rw[hF] at h8;simp at h8 ⊢;omega)).mono ?_).mono ?_
  · rintro e w' ⟨rfl,hm',ht⟩
    have hbt:Trn S W V:=Trn.of_below hb;exact⟨0,rfl,rfl,hm'.wide fun c hc=>qEq hb.size c hc,hbt.trans ht fun _ _ q=>q⟩
  · rintro e w' ⟨en,rfl,rfl,hm',ht⟩
    exact⟨none,0,0,_,_,rfl,hm',fun b hb=>hb,qEd _ _,ht⟩
theorem qLK {m:Mod} {L:List (List Shape)} {s:Stt} (hL:RightM m L):∀{gf:Int} {r:List Frm},waits m L s gf r→∀f∈r,f.stk.length≤900
 |_,[],_,f,hf=>by simp at hf
 |_,g::r,q,f,hf=>by
  rcases List.mem_cons.1 hf with e|e
  · subst e
    obtain⟨j,p,fn,l,u,u',i,h,-,-,a3,a4,a5,-,-,-,-,-,a11,-⟩:=q.1;have h8:=(hL.at_ j fn l a3 a4).2.1 _ (qBQ a5);have:=qEk a11;rw[List.length_take] at this;simp only at h8
    omega
  · exact qLK hL q.2 f e
theorem fr_info:(Tryz.prog.info? 80).map (fun i=>(i.zero,i.size,i.bytes))=some (some (.agg #[.int .i64 0,.int .i64 0,.slice none 0 0,.slice none 0 0]),4,64):=by kernel_rfl
theorem qMN (A:Option Addr) (n c:Nat) (xs:List Frm) (w:World) (S:Nat→Prop) (hS:∀b,S b→b<w.heap.size) (hl:xs.length=n) (hR:Sq frL S w A xs) (hn:n≤1000000):
 Calls Tryz.prog 64 #[.slice A n c] w fun e w'=>∃(A':Option Addr) (c':Nat) (css:List (List Value)),e= .returned (.slice A' n c')∧css.length=n∧w'.ownsRow w.heap.size 80 4 (.slice A' n c') n css.flatten∧(∀(j:Nat) (x:Frm) (cs:List Value),xs[j]? =some x→css[j]? =some cs→frL.R S w' cs x)∧Below w.heap.size w w':=by
 have qq:∀(w:World) (a:Option Addr) (n c n' c':Nat),(binOp .eql 29 (.slice a n c) (.slice none n' c')).run Tryz.prog w= .ok (.bool a.isNone) w:=fun w a n c n' c'=>Lib.run_eql_slice_nil w _ _ a n c n' c' Tryz.underlying29;refine qBB ?_;intro HL HR;rcases A with _|a
 · refine qAB ?_;intro h0
   subst h0;obtain rfl:n=0:=by simpa using hl.symm
   clear hl hR
   go_enter Tryz.func64,Tryz.ntmps64
   exact zG
 · clear hl hR
   go_enter Tryz.func64,Tryz.ntmps64
   go_wp2_with (at_builtin
                refine qCH frL _ rfl (.tmp 5) (.tmp 6) 29 80 rfl (.agg #[.int .i64 0,.int .i64 0,.slice none 0 0,.slice none 0 0]) 64 Tryz.underlying29 fr_info rfl qp (by omega) w.heap.size (.slice (some ⟨w.heap.size,0,none⟩) 0 0) rfl (qC4 w _ _) a n c xs rfl HL.out S (HR.out.keep fun b hb=>qBX w _ b (hS b hb)) (by omega) (by simp) ?_;intro v2 w2 css hcl hown2 hRR hg2;have HC2:=qBK hcl;have HO2:=qBK hown2;have HB2:=qBK (((qBO w.heap.size w).alloc (qBL _) (.cells #[] 80)).grown hg2 (by simp) (fun i hi=>by simp[Value.ownBlock] at hi;omega));have HB1:=qBK (fun b (hb:b<w.heap.size)=>(hg2.block b qK (fun e=>by simp[Value.ownBlock] at e;omega):w2.heap[b]? =(w.alloc (.cells #[] 80)).heap[b]?));have HRR:=qBK hRR;clear hown2 hRR hg2 hcl)
   go_ret;refine qAK ?_;intro hv;obtain⟨A',c',rfl⟩:=hv;exact⟨A',c',css,rfl,HC2.out,HO2.out,fun j x cs h1 h2=>frL.keep (HRR.out j x cs h1 h2) fun b hb=>HB1.out b (hS b hb),HB2.out⟩
theorem qML (A:Option Addr) (n c:Nat) (xs:List Ob) (w:World) (S:Nat→Prop) (hS:∀b,S b→b<w.heap.size) (hl:xs.length=n) (hR:Sq obL S w A xs) (hn:n≤1000000):
 Calls Tryz.prog 65 #[.slice A n c] w fun e w'=>∃(A':Option Addr) (c':Nat) (css:List (List Value)),e= .returned (.slice A' n c')∧css.length=n∧w'.ownsRow w.heap.size 78 4 (.slice A' n c') n css.flatten∧(∀(j:Nat) (x:Ob) (cs:List Value),xs[j]? =some x→css[j]? =some cs→obL.R S w' cs x)∧Below w.heap.size w w':=by
 have qq:∀(w:World) (a:Option Addr) (n c n' c':Nat),(binOp .eql 30 (.slice a n c) (.slice none n' c')).run Tryz.prog w= .ok (.bool a.isNone) w:=fun w a n c n' c'=>Lib.run_eql_slice_nil w _ _ a n c n' c' Tryz.underlying30;refine qBB ?_;intro HL HR;rcases A with _|a
 · refine qAB ?_;intro h0
   subst h0;obtain rfl:n=0:=by simpa using hl.symm
   clear hl hR
   go_enter Tryz.func65,Tryz.ntmps65
   exact zG
 · clear hl hR
   go_enter Tryz.func65,Tryz.ntmps65
   go_wp2_with (at_builtin
                refine qCH obL _ rfl (.tmp 5) (.tmp 6) 30 78 rfl (.agg #[.int .i64 0,.int .i64 0,.slice none 0 0,.slice none 0 0]) 64 Tryz.underlying30 qKy rfl qp (by omega) w.heap.size (.slice (some ⟨w.heap.size,0,none⟩) 0 0) rfl (qC4 w _ _) a n c xs rfl HL.out S (HR.out.keep fun b hb=>qBX w _ b (hS b hb)) (by omega) (by simp) ?_;intro v2 w2 css hcl hown2 hRR hg2;have HC2:=qBK hcl;have HO2:=qBK hown2;have HB2:=qBK (((qBO w.heap.size w).alloc (qBL _) (.cells #[] 78)).grown hg2 (by simp) (fun i hi=>by simp[Value.ownBlock] at hi;omega));have HB1:=qBK (fun b (hb:b<w.heap.size)=>(hg2.block b qK (fun e=>by simp[Value.ownBlock] at e;omega):w2.heap[b]? =(w.alloc (.cells #[] 78)).heap[b]?));have HRR:=qBK hRR;clear hown2 hRR hg2 hcl)
   go_ret;refine qAK ?_;intro hv;obtain⟨A',c',rfl⟩:=hv;exact⟨A',c',css,rfl,HC2.out,HO2.out,fun j x cs h1 h2=>obL.keep (HRR.out j x cs h1 h2) fun b hb=>HB1.out b (hS b hb),HB2.out⟩
theorem qMM (A:Option Addr) (n c:Nat) (xs:List Hnd) (w:World) (S:Nat→Prop) (hS:∀b,S b→b<w.heap.size) (hl:xs.length=n) (hR:Sq hdL S w A xs) (hn:n≤1000000):
 Calls Tryz.prog 66 #[.slice A n c] w fun e w'=>∃(A':Option Addr) (c':Nat) (css:List (List Value)),e= .returned (.slice A' n c')∧css.length=n∧w'.ownsRow w.heap.size 102 3 (.slice A' n c') n css.flatten∧(∀(j:Nat) (x:Hnd) (cs:List Value),xs[j]? =some x→css[j]? =some cs→hdL.R S w' cs x)∧Below w.heap.size w w':=by
 refine qAY ?_;intro qq HL HR;rcases A with _|a
 · refine qAB ?_;intro h0
   subst h0;obtain rfl:n=0:=by simpa using hl.symm
   clear hl hR
   go_enter Tryz.func66,Tryz.ntmps66
   exact zG
 · clear hl hR
   go_enter Tryz.func66,Tryz.ntmps66
   go_wp2_with (at_builtin
                refine qCH hdL _ rfl (.tmp 5) (.tmp 6) 31 102 rfl (.agg #[.int .i64 0,.int .u64 0,.bool false]) 24 Tryz.underlying31 qK4 rfl qp (by omega) w.heap.size (.slice (some ⟨w.heap.size,0,none⟩) 0 0) rfl (qC4 w _ _) a n c xs rfl HL.out S (HR.out.keep fun b hb=>qBX w _ b (hS b hb)) (by omega) (by simp) ?_;intro v2 w2 css hcl hown2 hRR hg2;have HC2:=qBK hcl;refine qBD ?_;intro HO2 HB2;have HB1:=qBK (fun b (hb:b<w.heap.size)=>(hg2.block b qK (fun e=>by simp[Value.ownBlock] at e;omega):w2.heap[b]? =(w.alloc (.cells #[] 102)).heap[b]?));have HRR:=qBK hRR;clear hown2 hRR hg2 hcl)
   go_ret;refine qAK ?_;intro hv;obtain⟨A',c',rfl⟩:=hv;exact⟨A',c',css,rfl,HC2.out,HO2.out,fun j x cs h1 h2=>hdL.keep (HRR.out j x cs h1 h2) fun b hb=>HB1.out b (hS b hb),HB2.out⟩
def New (M:Nat) (w:World) (b:Nat):Prop:=M≤b∧b<w.heap.size∧∀i,w.frozen? ⟨b,i,none⟩=false
theorem New.keep {b:Nat} {w':World} (h:New M w b) (hk:w'.heap[b]? =w.heap[b]?) (hs:w.heap.size≤w'.heap.size):New M w' b:=⟨h.1,qBN h.2.1 hs,fun i=>(World.frozen?_of_block (a:=⟨b,i,none⟩) hk).trans (h.2.2 i)⟩
theorem qKw {base:Nat} {cs:List Value} (h:w.ownsRow base ty 1 v n cs) (hM:M≤base):Part (New M w) w ty v cs:=by
 have hl:cs.length=n:=by have:=h.1;omega
 rcases h.2 with⟨rfl,rfl⟩|⟨g,cap,cur,rfl,hb,hg,hnc,hcm,hcs,ht⟩
 · exact zr
 · refine⟨some ⟨g,0,none⟩,cap,by rw[hl],by omega,hcm,fun _=>⟨g,cur,rfl,⟨by omega,(Array.getElem?_eq_some_iff.1 hg).1,fun i=>Blk.frozen hg i⟩,hg,fun i u hu=> ?_⟩⟩
   exact zL
def Half {α:Type} (La:Lay α) (ty N B M k:Nat) (w:World) (v:Value) (xs:List α):Prop:=
 ∃css:List (List Value),css.length=xs.length∧w.ownsRow B ty 4 v xs.length css.flatten∧(∀b,v.ownBlock=some b→b<M)∧∀(j:Nat) (x:α) (cs:List Value),xs[j]? =some x→css[j]? =some cs→La.R (fun b=>if j<k then New M w b else b<N) w cs x
theorem Half.keep {w':World} (h:Half La ty N B M k w v xs) (hN:N≤M) (hs:w.heap.size≤w'.heap.size) (hv:∀b,v.ownBlock=some b→w'.heap[b]? =w.heap[b]?) (hk:∀b,b<N∨(M≤b∧b<w.heap.size)→w'.heap[b]? =w.heap[b]?):Half La ty N B M k w' v xs:=by
 obtain⟨css,h1,h2,h3,h4⟩:=h;refine⟨css,h1,qBs h2 hv,h3,fun j x cs e1 e2=> ?_⟩;have q:=h4 j x cs e1 e2
 by_cases hj:j<k
 · simp only[hj,if_true] at q⊢
   exact La.wide (La.keep q fun b hb=>hk b (.inr ⟨hb.1,hb.2.1⟩)) fun b hb=>hb.keep (hk b (.inr ⟨hb.1,hb.2.1⟩)) hs
 · simp only[hj,if_false] at q⊢
   exact La.keep q fun b hb=>hk b (.inl hb)
theorem Half.shape (h:Half La ty N B M k w v xs):∃A c,v= .slice A xs.length c:=by
 obtain⟨css,h1,h2,-,-⟩:=h;rcases h2.2 with⟨rfl,h0⟩|⟨g,cap,cur,rfl,_⟩
 · exact⟨none,0,by rw[h0]⟩
 · exact⟨_,_,rfl⟩
theorem Half.at {α:Type} {La:Lay α} {ty N B M k n c:Nat} {A:Option Addr} {w:World} {xs:List α} (h4:La.k=4) (h:Half La ty N B M k w (.slice A n c) xs) {j:Nat} {x:α} (hj:xs[j]? =some x):
 ∃g cs,A=some ⟨g,0,none⟩∧n=xs.length∧B≤g∧g<M∧g<w.heap.size∧(∀i u,cs[i]? =some u→w.cell? ⟨g,j*4+i,none⟩=some u)∧(∀i,w.frozen? ⟨g,i,none⟩=false)∧La.R (fun b=>if j<k then New M w b else b<N) w cs x:=by
 obtain⟨css,h1,h2,h3,h5⟩:=h;have hlt:j<xs.length:=(qBM.1 hj).1;have hcs:=List.getElem?_eq_getElem (show j<css.length by omega);have hR:=h5 j x _ hj hcs;have hk4:∀cs∈css,cs.length=4:=fun cs hc=>by
  refine qAs ?_;intro i hi hil;rw[La.len (h5 i _ cs (List.getElem?_eq_getElem hil) hi),h4]
 obtain⟨g,c',e,hb,hg⟩:=qCQ h2 (by omega);simp only[Value.slice.injEq] at e;obtain⟨rfl,rfl,rfl⟩:=e;refine⟨g,_,rfl,rfl,hb,h3 g rfl,hg,fun i u hu=> ?_,fun i=>h2.frozenAt i,hR⟩;have hi:i<4:=by rw[←h4,←La.len hR];exact(qBM.1 hu).1
 have:=h2.cells rfl (j*4+i) u (by rw[qCf hk4 hcs i hi];exact hu)
 rwa [add_zero] at this
theorem Half.step {c g:Nat} (h4:La.k=4) (hN:N≤B) (h:Half La ty N B M k w (.slice (some ⟨g,0,none⟩) n c) xs) {x:α} (hj:xs[k]? =some x) {cs:List Value} (hcs:∀i u,cs[i]? =some u→w.cell? ⟨g,k*4+i,none⟩=some u) {u2 u3:Value} (hl:cs.length=4) (hR:La.R (New M w) w ((cs.set 2 u2).set 3 u3) x):
 Half La ty N B M (k+1) ((w.setCell ⟨g,k*4+2,none⟩ u2).setCell ⟨g,k*4+3,none⟩ u3) (.slice (some ⟨g,0,none⟩) n c) xs:=by
 obtain⟨css,h1,h2,h3,h5⟩:=h;have hlt:k<xs.length:=(qBM.1 hj).1;have hg:=h3 g rfl;have hgN:N≤g:=qBZ hN (h2.lt g rfl).1;have hk4:∀cs∈css,cs.length=4:=fun cs hc=>by
  refine qAs ?_;intro i hi hil;rw[La.len (h5 i _ cs (List.getElem?_eq_getElem hil) hi),h4]
 refine jm ?_;intro hck hnn;subst hnn;have o1:=(h2.stored (k*4+2) u2).1;rw[qCe hk4 hck (by omega) u2] at o1;have hk4':∀ds∈css.set k (cs.set 2 u2),ds.length=4:=fun ds hd=>by
  rcases List.mem_or_eq_of_mem_set hd with q|q
  · exact hk4 ds q
  · rw[q,List.length_set,hl]
 have o2:=(o1.stored (k*4+3) u3).1;rw[qCe hk4' (cs:=cs.set 2 u2) (by rw[List.getElem?_set];simp;omega) (by omega) u3,List.set_set] at o2;have hb:∀b,b≠g→((w.setCell ⟨g,k*4+2,none⟩ u2).setCell ⟨g,k*4+3,none⟩ u3).heap[b]? =w.heap[b]? :=fun b hb=>(qBP _ _ _ _ hb).trans (qBP _ _ _ _ hb);have hsz:((w.setCell ⟨g,k*4+2,none⟩ u2).setCell ⟨g,k*4+3,none⟩ u3).heap.size=w.heap.size:=by simp[World.setCell]
 refine⟨_,by rw[List.length_set];exact h1,o2,h3,fun j y ds e1 e2=> ?_⟩
 by_cases hjk:j=k
 · subst hjk
   rw[List.getElem?_set] at e2;simp[show j<css.length by omega] at e2;subst e2;rw[hj] at e1;injection e1 with e1;subst e1;simp only[Nat.lt_succ_self,if_true];exact La.wide (La.keep hR fun b hb'=>hb b (by have:=hb'.1;omega)) fun b hb'=>hb'.keep (hb b (by have:=hb'.1;omega)) (by rw[hsz];exact qBL _)
 · rw[List.getElem?_set_ne (fun e=>hjk e.symm)] at e2
   have q:=h5 j y ds e1 e2
   by_cases hlk:j<k
   · have hlk':j<k+1:=by omega
     simp only[hlk,hlk',if_true] at q⊢;exact La.wide (La.keep q fun b hb'=>hb b (by have:=hb'.1;omega)) fun b hb'=>hb'.keep (hb b (by have:=hb'.1;omega)) (by rw[hsz];exact qBL _)
   · have hlk':¬j<k+1:=by omega
     simp only[hlk,hlk',if_false] at q⊢;exact La.keep q fun b hb'=>hb b (by omega)
theorem Half.done (h4:La.k=4) (hN:B≤M) (h:Half La ty N B M xs.length w v xs):(slL La).R (New B w) w [v] xs:=by
 have hsh:=h.shape;obtain⟨A,c,rfl⟩:=hsh;have hat:= @Half.at α La ty N B M xs.length xs.length c A w xs h4 h;obtain⟨css,h1,h2,h3,h5⟩:=h;have hc:xs.length≤c∧c≤maxLen:=by
  rcases h2.2 with⟨h,h0⟩|⟨g,cap,cur,h,_,_,hnc,hcm,_,_⟩
  · simp only[Value.slice.injEq] at h
    exact⟨by omega,by rw[h.2.2];simp[maxLen]⟩
  · simp only[Value.slice.injEq] at h
    exact⟨by omega,by omega⟩
 refine⟨A,c,rfl,hc.1,hc.2,fun hp=> ?_⟩;obtain⟨g,c',e,hb,hg⟩:=qCQ h2 hp;simp only[Value.slice.injEq] at e;obtain⟨rfl,-,rfl⟩:=e;refine⟨_,rfl,⟨hb,hg,fun i=>h2.frozenAt i⟩,fun j x hx=> ?_⟩;obtain⟨g',cs,eg,-,-,-,-,hcl,-,hR⟩:=hat hx;injection eg with eg;injection eg with eg;subst eg;have hj:=(qBM.1 hx).1;simp only[hj,if_true] at hR;exact⟨cs,fun i u hu=>by rw[h4,add_zero];exact hcl i u hu,La.wide hR fun b hb=>⟨by have:=hb.1;omega,hb.2⟩⟩
end Go.Proofs.YtgdbhanhmenmfaaGreat
