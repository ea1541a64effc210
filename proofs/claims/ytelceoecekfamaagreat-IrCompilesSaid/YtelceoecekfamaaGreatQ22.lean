/-
Vrk Rlc
-/
import Derived.Test.YtelceoecekfamaaGreatQ15
import Derived.Test.YtelceoecekfamaaGreatQ18
import Derived.Deep.RegionHeld3
set_option linter.unusedSimpArgs false
set_option linter.unusedVariables false
set_option maxRecDepth 100000
set_option maxHeartbeats 2000000
namespace Go.Proofs.YtelceoecekfamaaGreat
open Go.RowKit
variable {B:Nat}{b:Bool}{fn:Fn}{k:Nat}{l l0:List Shape}{m:Mod}{ok':Prop}{p:Nat}{r:List (Bool×Value)}{t u:List Typ}{w:World}
theorem zJ {P:Prop} (h:P:=by
 go_wp2_with fail
 exact bodyPost_ret (v:= .agg #[.int .i64 8,.int .i64 0]) (by simp[results,Tryz.results20,go_sem,hr0,hr1]) rfl ⟨by rw[HT.out],HFin.out _ _⟩):P:=h
theorem qJF {P:Nat→Prop} (h:∃n,P n):∃m,P m∧∀k,P k→m≤k:=by
 obtain⟨n,hn⟩:=h
 induction n using Nat.strongRecOn with
 |_ n ih=>
  by_cases hk:∃k,k<n∧P k
  · obtain⟨k,h1,h2⟩:=hk
    exact ih k h1 h2
  · exact⟨n,hn,fun k h=>Nat.le_of_not_lt fun h1=>hk ⟨k,h1,h⟩⟩
theorem rank_of {σ:Type} (J:Nat→σ→Prop):∃f:σ→Nat,∀s,(∃n,J n s)→J (f s) s∧∀k,J k s→f s≤k:=by
 refine Classical.axiomOfChoice (r:=fun(s:σ) (m:Nat)=>(∃n,J n s)→J m s∧∀k,J k s→m≤k) fun s=> ?_
 by_cases h:∃n,J n s
 · obtain⟨m,hm⟩:=qJF h
   exact⟨m,fun _=>hm⟩
 · exact⟨0,fun h'=>absurd h' h⟩
theorem qJK {a b:List Typ} (ha:A64 a) (hb:A64 b):A64 (joinL a b):=by
 induction a generalizing b with
 |nil=>intro t ht;cases b<;>simp[joinL] at ht
 |cons x a ih=>
  cases b with
  |nil=>intro t ht;simp[joinL] at ht
  |cons y b=>
   intro t ht;simp only[joinL,List.mem_cons] at ht;rcases ht with rfl|ht
   · exact qFx (ha x (by simp)) (hb y (by simp))
   · exact ih (fun t ht=>ha t (by simp[ht])) (fun t ht=>hb t (by simp[ht])) t ht
structure Rk (B p:Nat) (w:World) (l:List Shape) (r:List (Bool×Value)):Prop where
 hp:B≤p
 row:w.ownsRow B 49 2 (.slice (some ⟨p,0,none⟩) l.length l.length) l.length (CS2 r)
 stk:∀(k:Nat) (x:Shape),l[k]? =some x→∃A c,r[k]? =some (x.1,.slice A x.2.length c)∧x.2.length≤c∧c≤maxLen∧(A=none→c=0)∧Sq typL (fun b=>B≤b∧b<w.heap.size∧b≠p) w A x.2
theorem Rk.lenr (h:Rk B p w l r):r.length=l.length:=by
 have:=h.row.1;rw[qBe] at this
 omega
theorem Rk.lt (h:Rk B p w l r):p<w.heap.size:=(h.row.lt p rfl).2
theorem Rk.below {w':World} (h:Rk B p w l r) (hb:Below w.heap.size w w'):Rk B p w' l r:=by
 refine⟨h.hp,qBk h.row (hb.block p h.lt),fun k x hx=> ?_⟩;obtain⟨A,c,h1,h2,h3,h4,h5⟩:=h.stk k x hx;exact⟨A,c,h1,h2,h3,h4,(h5.keep fun b hb2=>hb.block b hb2.2.1).wide fun b hb2=>⟨hb2.1,qAh hb2.2.1 hb.size,hb2.2.2⟩⟩
theorem Rk.cells (h:Rk B p w l r) {x:Shape} (hx:l[k]? =some x):
 ∃A c,r[k]? =some (x.1,.slice A x.2.length c)∧w.cell? ⟨p,k*2,none⟩=some (.bool x.1)∧w.cell? ⟨p,k*2+1,none⟩=some (.slice A x.2.length c)∧x.2.length≤c∧c≤maxLen∧(A=none→c=0)∧Sq typL (fun b=>B≤b∧b<w.heap.size∧b≠p) w A x.2:=by
 obtain⟨A,c,h1,h2,h3,h4,h5⟩:=h.stk k x hx;have hk:=(qAj.1 hx).1;exact⟨A,c,h1,(h.row.cellAt (k*2) (by omega)).trans (qES h1),(h.row.cellAt (k*2+1) (by omega)).trans (qER h1),h2,h3,h4,h5⟩
theorem Rk.seen (h:Rk B p w l r) (hk:k<l.length) {A:Option Addr} {c:Nat} (h1:t.length≤c) (h2:c≤maxLen) (h3:A=none→c=0) (h4:Sq typL (fun b=>B≤b∧b<w.heap.size∧b≠p) w A t):
 Rk B p ((w.setCell ⟨p,k*2,none⟩ (.bool true)).setCell ⟨p,k*2+1,none⟩ (.slice A t.length c)) (l.set k (true,t)) (r.set k (true,.slice A t.length c)):=by
 have hz:∀i,i≠p→((w.setCell ⟨p,k*2,none⟩ (.bool true)).setCell ⟨p,k*2+1,none⟩ (.slice A t.length c)).heap[i]? =w.heap[i]? :=fun i hi=>(qA2 _ ⟨p,k*2+1,none⟩ _ i hi).trans (qA2 w ⟨p,k*2,none⟩ (.bool true) i hi);have hsz:((w.setCell ⟨p,k*2,none⟩ (.bool true)).setCell ⟨p,k*2+1,none⟩ (.slice A t.length c)).heap.size=w.heap.size:=by simp[World.setCell]
 obtain⟨x,hx⟩:∃x,l[k]? =some x:=⟨_,List.getElem?_eq_getElem hk⟩;obtain⟨A0,c0,hr0,-⟩:=h.stk k x hx;refine⟨h.hp,?_,fun j y hy=> ?_⟩
 · have k1:=(h.row.stored (k*2) (.bool true)).1
   have k2:=(k1.stored (k*2+1) (.slice A t.length c)).1;have hr1:(r.set k (true,.slice A0 x.2.length c0))[k]? =some (true,.slice A0 x.2.length c0):=by rw[List.getElem?_set_self (by rw[h.lenr];exact hk)]
   rw[qEQ hr0,qEP hr1,List.set_set] at k2;simpa using k2
 · exact qd
theorem Rk.stack (h:Rk B p w l r) (hx:l[k]? =some (true,u)) {A:Option Addr} {c:Nat} (h1:t.length≤c) (h2:c≤maxLen) (h3:A=none→c=0) (h4:Sq typL (fun b=>B≤b∧b<w.heap.size∧b≠p) w A t):
 Rk B p (w.setCell ⟨p,k*2+1,none⟩ (.slice A t.length c)) (l.set k (true,t)) (r.set k (true,.slice A t.length c)):=by
 have hk:=(qAj.1 hx).1;have hz:∀i,i≠p→(w.setCell ⟨p,k*2+1,none⟩ (.slice A t.length c)).heap[i]? =w.heap[i]? :=fun i hi=>qA2 _ ⟨p,k*2+1,none⟩ _ i hi;have hsz:(w.setCell ⟨p,k*2+1,none⟩ (.slice A t.length c)).heap.size=w.heap.size:=by simp[World.setCell]
 obtain⟨A0,c0,hr0,-⟩:=h.stk k _ hx;refine⟨h.hp,?_,fun j y hy=> ?_⟩
 · have k2:=(h.row.stored (k*2+1) (.slice A t.length c)).1
   rw[qEP hr0] at k2;simpa using k2
 · exact qd
theorem Rk.mark (h:Rk B p w l r) (hx:l[k]? =some (b,u)):∃r',Rk B p (w.setCell ⟨p,k*2,none⟩ (.bool true)) (l.set k (true,u)) r':=by
 have hk:=(qAj.1 hx).1;have hz:∀i,i≠p→(w.setCell ⟨p,k*2,none⟩ (.bool true)).heap[i]? =w.heap[i]? :=fun i hi=>qA2 _ ⟨p,k*2,none⟩ _ i hi;have hsz:(w.setCell ⟨p,k*2,none⟩ (.bool true)).heap.size=w.heap.size:=by simp[World.setCell]
 obtain⟨A0,c0,hr0,g1,g2,g3,g4⟩:=h.stk k _ hx;refine⟨r.set k (true,.slice A0 u.length c0),h.hp,?_,fun j y hy=> ?_⟩
 · have k2:=(h.row.stored (k*2) (.bool true)).1
   rw[qEQ hr0] at k2;simpa using k2
 · rw[List.getElem?_set] at hy
   by_cases e:k=j
   · subst e
     rw[if_pos rfl,if_pos hk] at hy;injection hy with hy;subst hy;exact⟨A0,c0,by rw[List.getElem?_set_self (by rw[h.lenr];exact hk)],g1,g2,g3,(g4.keep fun b hb=>hz b hb.2.2).wide fun b hb=>by rw[hsz];exact hb⟩
   · rw[if_neg e] at hy
     obtain⟨A1,c1,q1,q2,q3,q4,q5⟩:=h.stk j y hy;exact⟨A1,c1,by rw[List.getElem?_set_ne e];exact q1,q2,q3,q4,(q5.keep fun b hb=>hz b hb.2.2).wide fun b hb=>by rw[hsz];exact hb⟩
theorem qIw {W:World} {n:Nat} (hn:n≤1000) (hp:w.heap.size≤p) (hP:Blk W p 49 (madeCells #[.bool false,.slice none 0 0] (n*2))) (hm:(madeCells #[.bool false,.slice none 0 0] (n*2)).toList=CS2 (List.replicate n (false,.slice none 0 0))):Rk w.heap.size p W (List.replicate n (false,[])) (List.replicate n (false,.slice none 0 0)):=by
 have hnm:n≤maxLen:=by unfold maxLen;omega
 refine⟨hp,?_,fun k x hx=> ?_⟩
 · rw[List.length_replicate]
   refine⟨by rw[qBe,List.length_replicate],.inr ⟨p,n,_,rfl,hp,hP,qAi _,hnm,size_madeCells _ _,?_⟩⟩;rw[hm,qAn (by rw[qBe,List.length_replicate];exact qAi _)]
 · have hk:=(qAj.1 hx).1
   rw[List.length_replicate] at hk;rw[List.getElem?_replicate,if_pos hk] at hx;injection hx with hx;subst hx;exact⟨none,0,(by rw[List.getElem?_replicate,if_pos hk];rfl),qAi _,by simp[maxLen],fun _=>rfl,Sq.nil _ _ _ _⟩
theorem Rk.done (h:Rk B p w l r):rowL.R (fun b=>B≤b∧b<w.heap.size) w [.slice (some ⟨p,0,none⟩) l.length l.length] l:=by
 have hlm:l.length≤maxLen:=by
  rcases h.row.2 with⟨e,_⟩|⟨g',cap,cur,e,_,_,hnc,hcm,_⟩
  · cases e
  · omega
 refine⟨_,_,rfl,qAi _,hlm,fun _=>⟨_,rfl,⟨h.hp,h.lt⟩,fun k x hx=> ?_⟩⟩;obtain⟨A,c,hr,h0,h1,h2,h3,h4,h5⟩:=h.cells hx;have e:∀i,(⟨p,0,none⟩:Addr).add i=⟨p,i,none⟩:=fun i=>by unfold Addr.add;split<;>simp_all
 refine⟨[.bool x.1,.slice A x.2.length c],fun i u hu=> ?_,_,rfl,A,c,rfl,h2,h3,h4,h5.wide fun b hb=>⟨hb.1,hb.2.1⟩⟩;rw[e]
 match i,hu with
 |0,hu=>simp at hu;subst hu;exact h0
 |1,hu=>simp at hu;subst hu;exact h1
 |i+2,hu=>simp at hu
structure Rnd (m:Mod) (fn:Fn) (l0 l:List Shape) (b:Bool) (ok:Prop):Prop where
 runF:RunF m fn l
 out:∀(p:Nat) (s:List Typ),l[p]? =some (false,s)→s=[]
 same:b=false→l=l0∧ok
 less:b=true→rkS (toS l) fn.code.length<rkS (toS l0) fn.code.length
theorem Rnd.ok {ok:Prop} (h:Rnd m fn l0 l b ok) (hk:b=false→l=l0→ok→ok'):Rnd m fn l0 l b ok':=
 ⟨h.runF,h.out,fun hb=>⟨(h.same hb).1,hk hb (h.same hb).1 (h.same hb).2⟩,h.less⟩
theorem Rnd.le {ok:Prop} (h:Rnd m fn l0 l b ok):rkS (toS l) fn.code.length≤rkS (toS l0) fn.code.length:=by
 cases b
 · rw[(h.same rfl).1];exact qAi _
 · exact Nat.le_of_lt (h.less rfl)
theorem Rnd.seen {ok:Prop} {pc:Nat} {i:Ins} {s:List Typ} {ks:List Int} (h:Rnd m fn l0 l b ok) {z:List Typ} (hx:l[k]? =some (false,z)) (hu:Und m fn pc s) (hi:fn.code[pc]? =some i) (hf:insB8 m fn i pc s=(0,t,ks)) (hk:(k:Int)∈ks) (hc:canL t) (h8:t.length≤8):Rnd m fn l0 (l.set k (true,t)) true ok':=by
 have hlk:=(qAj.1 hx).1;have hlt:k<fn.code.length:=by rw[←h.runF.len];exact hlk
 refine⟨⟨by simpa using h.runF.len,by rw[qBO hlk];exact qEy h.runF.run hu hi hf hk (qCA hx) hc h8 hlt⟩,fun p s hp=> ?_,fun e=>(by cases e),fun _=> ?_⟩
 · exact q6
 · rw[qBO hlk]
   exact qAh (qHI hlt (qCA hx) h8) h.le
theorem Rnd.join {ok:Prop} {pc:Nat} {i:Ins} {s:List Typ} {ks:List Int} (h:Rnd m fn l0 l b ok) (hx:l[k]? =some (true,u)) (hu:Und m fn pc s) (hi:fn.code[pc]? =some i) (hf:insB8 m fn i pc s=(0,t,ks)) (hk:(k:Int)∈ks) (hn:u.length=t.length) (hc:canL t) (hne:joinL u t≠u):Rnd m fn l0 (l.set k (true,joinL u t)) true ok':=by
 have hlk:=(qAj.1 hx).1;have hlt:k<fn.code.length:=by rw[←h.runF.len];exact hlk
 have hcu:=(h.runF.run.can k u (qA7 hx)).1;refine⟨⟨by simpa using h.runF.len,by rw[qBO hlk];exact qDu h.runF.run hu hi hf hk (qA7 hx) hn hc⟩,fun p s hp=> ?_,fun e=>(by cases e),fun _=> ?_⟩
 · exact q6
 · rw[qBO hlk]
   exact qAh (qFZ hlt (qA7 hx) hcu hc hn hne) h.le
theorem qJC {f:Fn} {n:Int} {j:Nat} {t:Typ} (hn:n=(j:Int)) (h:(f.args++f.locs)[j]? =some t):locB f n=t:=by
 subst hn;simp only[locB,Int.toNat_natCast,h];rw[if_neg (by omega)]
 rfl
def C2l (b:Nat) (x y:Value) (w:World):Prop:=w.cell? ⟨b,0,none⟩=some x∧w.cell? ⟨b,3,none⟩=some y
theorem qGZ (A0 A1 A2:Option Addr) (u0 u1 u2 c0 c1 c2:Nat) (r1 r2:Int) (f:Fn) (n:Int) (w:World) (h0:f.args.length=u0) (h1:f.locs.length=u1) (s0:Sq typL (·<w.heap.size) w A0 f.args) (s1:Sq typL (·<w.heap.size) w A1 f.locs)
 (b0:u0+u1≤1000000) (hn:I64 n):Calls Tryz.prog 20 #[.agg #[.slice A0 u0 c0,.int .i64 r1,.int .i64 r2,.slice A1 u1 c1,.slice A2 u2 c2],.int .i64 n] w (TypIs (locB f n) w):=by
 obtain⟨hn1,hn2⟩:=hn;have S0:=qAg s0;have S1:=qAg s1;have L0:=qAg h0;have L1:=qAg h1;have HA:=qAg (s0.a64.app s1.a64);clear s0 s1 h0 h1
 go_enter Tryz.func20,Tryz.ntmps20
 go_wp2_with fail
 refine qAs fun W hW=> ?_;have HB:Hid (Below w.heap.size w W):=by show Below _ _ _;rw[hW];exact(qAo _ _).alloc (by simp) _
 have hz:w.heap.size+2≤W.heap.size:=by rw[hW];simp
 have HC:Hid (W.cell? ⟨w.heap.size,0,none⟩=some (.slice A0 u0 c0)∧W.cell? ⟨w.heap.size,3,none⟩=some (.slice A1 u1 c1)):=by show _∧_;rw[hW];simp[go_sem]
 have HR:Hid (Blk W (w.heap.size+1) 41 #[.int .i64 0,.int .i64 0]):=by show Blk _ _ _ _;rw[hW];exact qA9 (by simp)
 clear hW;have HCb:Hid (∀w',Below W.heap.size W w'→w'.cell? ⟨w.heap.size,0,none⟩=some (.slice A0 u0 c0)∧w'.cell? ⟨w.heap.size,3,none⟩=some (.slice A1 u1 c1)):=fun w' hb=>⟨(hb.cell (p:=⟨w.heap.size,0,none⟩) (by show w.heap.size<_;omega)).trans HC.out.1,(hb.cell (p:=⟨w.heap.size,3,none⟩) (by show w.heap.size<_;omega)).trans HC.out.2⟩;have HOE:Hid ((W.alloc (.cells #[] 41)).drew.ownsRow W.heap.size 41 2 (.slice (some ⟨W.heap.size,0,none⟩) 0 0) 0 (T2 [])):=qBa W
 go_region_held3 (fun w'=>w'.cell? ⟨w.heap.size,0,none⟩=some (.slice A0 u0 c0)∧w'.cell? ⟨w.heap.size,3,none⟩=some (.slice A1 u1 c1))
  (first|exact SS2.out|exact SS1.out|exact HC.out|exact HCb.out _ (qAo W _).drew|exact HCb.out _ (qAo W _))
  (first
  |(with_reducible refine qBV (.tmp 6) (.tmp 8) 39 ?_
    refine qCH _ rfl (.tmp 6) (.tmp 8) rfl W.heap.size (.slice (some ⟨W.heap.size,0,none⟩) 0 0) 0 [] rfl HOE.out A0 u0 c0 f.args rfl L0.out _ ((S0.out.below HB.out (qAi _)).below (qAo W _).drew (by omega)) (by omega) (by simp) ?_;intro v1 w1 hown1 hg1 ha1;have HO1:=qAg hown1;have HB1:=qAg ((qAo W _).drew.grown hg1 (by simp) (fun i hi=>(HOE.out.lt i hi).1));have SS1:=qAg (HCb.out _ HB1.out);have hs1:=HB1.out.size;clear hown1 hg1 ha1)
  |(with_reducible refine qBV (.tmp 9) (.tmp 11) 39 ?_
    refine qCH _ rfl (.tmp 9) (.tmp 11) rfl W.heap.size v1 (0+u0) ([]++f.args) rfl HO1.out A1 u1 c1 f.locs rfl L1.out _ ((S1.out.below HB.out (qAi _)).below HB1.out (by omega)) (by omega) hs1 ?_;intro v2 w2 hown2 hg2 ha2;have HO2:=qAg hown2;have HB2:=qAg (HB1.out.grown hg2 hs1 (fun i hi=>(HO1.out.lt i hi).1));have SS2:=qAg (HCb.out _ HB2.out);have hs2:=HB2.out.size;clear hown2 hg2 ha2))
 obtain⟨A,c,rfl,hl,hlc,hcm,hsq⟩:=qCl HO2.out (by simpa using HA.out);rw[List.nil_append] at hsq;have HS:=qAg hsq;have HRr:Hid (Blk w2 (w.heap.size+1) 41 #[.int .i64 0,.int .i64 0]):=qAx HR.out HB2.out (by omega);have hr0:=HRr.out.cell 0;have hr1:=HRr.out.cell 1;have hf0:=HRr.out.frozen 0;have hf1:=HRr.out.frozen 1;clear hl hsq hcm;obtain⟨z,hzz⟩:∃z,0+u0+u1=z:=⟨_,rfl⟩;have HZ0:Hid (u0+u1=z):=by show _=z;omega
 rw[hzz] at*;have HZ:Hid ((f.args++f.locs).length=z):=by show _=z;rw[List.length_append,L0.out,L1.out,HZ0.out]
 have z0:z≤1000000:=by have:=HZ0.out;omega
 have HFin:Hid (∀u v,Below w.heap.size w ((w2.setCell ⟨w.heap.size+1,0,none⟩ u).setCell ⟨w.heap.size+1,1,none⟩ v)):=fun u v=>qEK (HB.out.trans (HB2.out.mono (by omega))) (by omega)
 by_cases hneg:n<0
 · have HT:=qAg (qFs (f:=f) hneg)
   exact zJ
 · by_cases hout:(z:Int)≤n
   · have HT:=qAg (qFr (f:=f) (n:=n) (by rw[L0.out,L1.out];have:=HZ.out;rw[List.length_append,L0.out,L1.out] at this;omega))
     exact zJ
   · obtain⟨j,hj⟩:∃j:Nat,n=(j:Int):=⟨n.toNat,by omega⟩
     subst hj;obtain⟨t,ht⟩:∃t,(f.args++f.locs)[j]? =some t:=⟨(f.args++f.locs)[j]'(by rw[HZ.out];omega),List.getElem?_eq_getElem _⟩;have HT:=qAg (qJC rfl ht);obtain⟨a,cs,rfl,hab,hc,hr⟩:=HS.out.at ht;obtain⟨rfl,-,-⟩:=hr;have k0:=hc 0 _ rfl;rw[show j*typL.k+0=j*2 from rfl] at k0;have k1:=hc 1 _ rfl;rw[show j*typL.k+1=j*2+1 from rfl,qAm a (j*2) 1 (by omega)] at k1;have j1:(j:Int)<(z:Int):=by omega
     clear hc ht hneg hout
     go_wp2_with fail
     exact bodyPost_ret (v:= .agg #[.int .i64 t.1,.int .i64 t.2]) (by simp[results,Tryz.results20,go_sem,hr0,hr1]) rfl ⟨by rw[HT.out],HFin.out _ _⟩
end Go.Proofs.YtelceoecekfamaaGreat
