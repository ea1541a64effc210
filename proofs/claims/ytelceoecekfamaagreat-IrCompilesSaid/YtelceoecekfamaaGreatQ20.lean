/-
Vbe Vnx Vgw Vgo Vsh Sc5 Loe
-/
import Derived.Test.YtelceoecekfamaaGreatQ01
import Derived.Test.YtelceoecekfamaaGreatQ07
import Derived.Test.YtelceoecekfamaaGreatQ11
import Derived.Test.YtelceoecekfamaaGreatQ16
import Derived.Test.YtelceoecekfamaaGreatQ17
import Derived.Test.YtelceoecekfamaaGreatQ18
import Derived.Test.YtelceoecekfamaaGreatQ19
import Derived.Maps.AppendAt
set_option linter.unusedSimpArgs false
set_option linter.unusedVariables false
set_option maxRecDepth 100000
set_option maxHeartbeats 4000000
namespace Go.Proofs.YtelceoecekfamaaGreat
open Go.RowKit
variable {α:Type}{L:Lay α}{base:Nat}{fn:Fn}{i:Ins}{k:Nat}{ks:List Int}{l:List Shape}{m:Mod}{s t:List Typ}{ty:Nat}{v:Value}{w:World}{ws:List Bool}{xs:List α}
theorem made_Bl (n:Nat):(madeCells #[.bool false] n).toList=Bl (List.replicate n false):=by
 rw[toList_madeCells_one];simp[Bl]
theorem qIP:(Tryz.prog.info? 4).map (fun i=>(i.zero,i.size,i.bytes))=some (some (.bool false),1,1):=by kernel_rfl
theorem qEV (n:Nat) (hn:n≤1000) (w:World):(Instr.makeSlice 100 (.int .i64 (n:Nat)) (.int .i64 (n:Nat))).run Tryz.prog w= .ok (.slice (some ⟨w.heap.size,0,none⟩) n n) (w.alloc (.cells (madeCells #[.bool false] n) 4)):=by
 obtain⟨i,hi,hz,hs,hb⟩:=info_parts qIP;have:=run_make (P:=Tryz.prog) w 100 4 i _ Tryz.underlying100 hi hz .i64 .i64 (n:Int) (n:Int) (by omega) (Int.le_refl _) (by rw[hb];omega) (by omega);rw[hs,Int.toNat_natCast,Nat.mul_one] at this;exact this
theorem qFP {W:World} {n g p q:Nat} (hn:n≤1000) (hg:w.heap.size≤g) (hp:w.heap.size≤p) (hq:w.heap.size≤q) (hgp:g≠p) (hgq:g≠q) (hpq:p≠q)
 (hP:Blk W p 49 (madeCells #[.bool false,.slice none 0 0] (n*2))) (hQ:Blk W q 4 (madeCells #[.bool false] n)) (hG:Blk W g 102 #[.slice (some ⟨p,0,none⟩) n n,.slice (some ⟨q,0,none⟩) n n]):
 Wk w.heap.size g p q (fun b=>if b=g then some 0 else if b=p then some 1 else if b=q then some 2 else none) W (List.replicate n (false,[])) (List.replicate n false) (List.replicate n (false,.slice none 0 0)):=by
 have hnm:n≤maxLen:=by unfold maxLen;omega
 refine⟨by simp,by simp[hgp.symm],by simp[hgq.symm,hpq.symm],fun b hb=> ?_,by simpa using hG,?_,?_,fun k x hx=> ?_⟩
 · by_cases e1:b=g
   · subst e1;exact⟨hg,hG.lt⟩
   by_cases e2:b=p
   · subst e2;exact⟨hp,hP.lt⟩
   by_cases e3:b=q
   · subst e3;exact⟨hq,hQ.lt⟩
   simp[e1,e2,e3] at hb
 · rw[List.length_replicate]
   refine⟨by rw[qBe,List.length_replicate],.inr ⟨p,n,_,rfl,hp,hP,qAi _,hnm,size_madeCells _ _,?_⟩⟩;rw[qHO,qAn (by rw[qBe,List.length_replicate];exact qAi _)]
 · rw[List.length_replicate]
   refine⟨by rw[qDP,List.length_replicate,Nat.mul_one],.inr ⟨q,n,_,rfl,hq,hQ,qAi _,hnm,by rw[size_madeCells,Nat.mul_one],?_⟩⟩;rw[made_Bl,qAn (by rw[qDP,List.length_replicate,Nat.mul_one];exact qAi _)]
 · have hk:=(qAj.1 hx).1
   rw[List.length_replicate] at hk;rw[List.getElem?_replicate,if_pos hk] at hx;injection hx with hx;subst hx;exact⟨.slice none 0 0,by rw[List.getElem?_replicate,if_pos hk],.inl ⟨rfl,none,0,rfl,by simp[maxLen],fun _=>rfl⟩,fun h=>absurd h (by simp)⟩
theorem qIR (n:Nat) (h0:0<n) (hn:n≤64) (w:World):
 Calls Tryz.prog 44 #[.int .i64 (n:Nat)] w fun e w'=>Below w.heap.size w w'∧∃g p q Z r,e= .returned (.pointer (some ⟨g,0,none⟩))∧Wk w.heap.size g p q Z w' (beginF n) ((List.replicate n false).set 0 true) r:=by
 have M1:=qCt n (by omega);have M2:=qEV n (by omega)
 go_enter Tryz.func44,Tryz.ntmps44
 go_wp2_with fail
 go_region
 all_goals
  go_upto_region 2 with(fail)
  refine qAs fun W hW=> ?_;have HBW:Hid (Below w.heap.size w W):=by
   show Below _ _ _
   rw[hW];exact(((qAo w _).alloc (by simp) _).alloc qc _).drew
  have hWk:∃p q Z,(w.heap.size≤p)∧Wk w.heap.size (w.heap.size+1+1) p q Z W (List.replicate n (false,[])) (List.replicate n false) (List.replicate n (false,.slice none 0 0)):=by
   first
   |exact⟨w.heap.size,w.heap.size+1,_,qAi _,qFP (by omega) (by omega) (by omega) (by omega) (by omega) (by omega) (by omega) (by rw[hW];exact qDL (qBG (qBG (qA9 rfl)))) (by rw[hW];exact qDL (qBG (qA9 (by simp)))) (by rw[hW];exact qDL (qA9 (by simp)))⟩
   |exact⟨w.heap.size+1,w.heap.size,_,by omega,qFP (by omega) (by omega) (by omega) (by omega) (by omega) (by omega) (by omega) (by rw[hW];exact qDL (qBG (qA9 (by simp)))) (by rw[hW];exact qDL (qBG (qBG (qA9 rfl)))) (by rw[hW];exact qDL (qA9 (by simp)))⟩
  clear hW;obtain⟨p,q,Z,-,hWk⟩:=hWk;have HW:=qAg hWk;have HL:=qAg hWk.low0;have RE:Hid (Calls Tryz.prog 66 #[.pointer (some ⟨w.heap.size+1+1,0,none⟩),.int .i64 ((0:Nat):Int),.slice none 0 0] W (Reached w.heap.size (w.heap.size+1+1) p q Z W (List.replicate n (false,[])) (List.replicate n false) 0 [])):=
   qEg _ _ p q Z W _ _ _ 0 none 0 0 [] hWk HBW.out.size (by simpa using h0) qK rfl (by omega) (Sq.nil _ _ _ _)
  clear hWk
  go_wp2_with fail
  refine RE.out.mono ?_;rintro e w6 ⟨hT6,⟨rfl,u,hu,hne⟩|⟨rfl,Z6,r6,l6,ws6,hW6,hz6,hrch⟩⟩
  · rw[List.getElem?_replicate,if_pos h0] at hu
    cases hu
  · have HT6:=qAg hT6
    have HW6:=qAg hW6;have HR6:=qAg hrch;clear hT6 hW6 hz6 hrch
    go_wp2_with fail
    go_ret;have hB:=HBW.out.trans (HT6.out.below HBW.out.size HL.out);refine⟨hB,_,p,q,Z6,r6,rfl,?_⟩;obtain⟨s,_,rfl,rfl⟩|⟨u,hu,-⟩:=HR6.out
    · exact HW6.out
    · rw[List.getElem?_replicate,if_pos h0] at hu
      cases hu
theorem qFn {f:Fn} {p:Nat} (h:insB8 m f i p s=(0,t,ks)):ks.length≤2:=by
 unfold insB8 at h;split at h
 · simp at h
 · split at h
   · simp at h
   · split at h
     · simp at h
     · rename_i l hl
       simp only[Prod.mk.injEq,true_and] at h;obtain⟨-,rfl⟩:=h;unfold nextB at hl
       repeat(split at hl
              · first
                |(injection hl with hl;subst hl;simp)
                |cases hl)
       injection hl with hl;subst hl;simp
def cnt:List Bool→Nat
 |[]=>0
 |b::l=>(if b then 1 else 0)+cnt l
theorem cnt_le (l:List Bool):cnt l≤l.length:=by
 induction l with
 |nil=>simp[cnt]
 |cons b l ih=>cases b<;>simp[cnt]<;>omega
theorem qII {l:List Bool} (h:l[k]? =some true):cnt (l.set k false)+1=cnt l:=by
 induction l generalizing k with
 |nil=>simp at h
 |cons b l ih=>
  cases k with
  |zero=>simp at h;subst h;simp[cnt];omega
  |succ k=>
   have:=ih qy;simp only[List.set_cons_succ,cnt]
   omega
def todo (l:List Shape) (ws:List Bool):Nat:=rkS (toS l) l.length*(l.length+1)+cnt ws
theorem qEc {l':List Shape} {ws':List Bool} (hl:l'.length=l.length) (hw:ws'.length=l.length) (h:rkS (toS l') l.length<rkS (toS l) l.length):todo l' ws'<todo l ws:=by
 unfold todo;rw[hl];have h1:=cnt_le ws';have h2:=Nat.mul_le_mul_right (l.length+1) (show rkS (toS l') l.length+1≤rkS (toS l) l.length from h);rw[Nat.add_mul] at h2
 omega
def Inv (m:Mod) (fn:Fn) (l:List Shape) (ws:List Bool):Prop:=(∀p:Nat,ws[p]? =some false→okAt m fn (toS l) p)∧(∀(p:Nat) (s:List Typ),l[p]? =some (false,s)→s=[])∧∀p:Nat,ws[p]? =some true→∃s,l[p]? =some (true,s)
theorem qJH (S:Shp):leS S S:=fun p=>qD8 _
theorem qEm {S T U:Shp} (h:leS S T) (h':leS T U):leS S U:=fun p=>qCb (h p) (h' p)
theorem qHQ {S:Shp} (h:leO (S k) (some s)):leS S (putS S k s):=fun p=>by
 by_cases e:p=k
 · rw[e,qBp];exact h
 · rw[qBi e];exact qD8 _
structure Leads (m:Mod) (fn:Fn) (l:List Shape) (ws:List Bool) (t:List Typ) (done:List Int) (l':List Shape) (ws':List Bool):Prop where
 runF:RunF m fn l'
 lenw:ws'.length=l.length
 grow:leS (toS l) (toS l')
 still:∀p:Nat,ws'[p]? =some false→ws[p]? =some false∧l'[p]? =l[p]?
 led:∀k∈done,leO (some t) (toS l' k.toNat)
 out:∀(p:Nat) (s:List Typ),l'[p]? =some (false,s)→s=[]
 seen:∀p:Nat,ws'[p]? =some true→∃s,l'[p]? =some (true,s)
 less:todo l' ws'≤todo l ws
theorem Leads.begin (t:List Typ) (h:RunF m fn l) (hw:ws.length=l.length) (ho:∀(p:Nat) (s:List Typ),l[p]? =some (false,s)→s=[]) (hs:∀p:Nat,ws[p]? =some true→∃s,l[p]? =some (true,s)):Leads m fn l ws t [] l ws:=
 ⟨h,hw,qJH _,fun p hp=>⟨hp,rfl⟩,fun k hk=>(by simp at hk),ho,hs,qAi _⟩
theorem Leads.step {l1 l2:List Shape} {w1 w2:List Bool} {done:List Int} {pc:Nat} (h:Leads m fn l ws t done l1 w1) (hl:l.length=fn.code.length) (hr:Rch l1 w1 k t l2 w2) (hu:Und m fn pc s) (hi:fn.code[pc]? =some i) (hf:insB8 m fn i pc s=(0,t,ks)) (hk:(k:Int)∈ks) (hc:canL t) (h8:t.length≤8) (hlt:k<fn.code.length):Leads m fn l ws t (done++[(k:Int)]) l2 w2:=by
 have hll:l1.length=l.length:=by rw[h.runF.len,hl]
 have hlk:k<l1.length:=by rw[h.runF.len];exact hlt
 rcases hr with⟨s0,hx,rfl,rfl⟩|⟨u,hx,hn,rfl,hw⟩
 · have hg:leS (toS l1) (toS (l1.set k (true,t))):=by
    rw[qBO hlk];exact qHQ fun z hz=>by rw[qCA hx] at hz;cases hz
   refine⟨⟨by simpa using h.runF.len,by rw[qBO hlk];exact qEy h.runF.run hu hi hf hk (qCA hx) hc h8 hlt⟩,by simpa using h.lenw,qEm h.grow hg,fun p hp=> ?_,fun j hj=> ?_,fun p s hp=> ?_,fun p hp=> ?_,?_⟩
   · exact zI
   · rcases List.mem_append.1 hj with hj|hj
     · exact qCb (h.led j hj) (hg _)
     · simp only[List.mem_singleton] at hj
       subst hj;rw[Int.toNat_natCast,qBO hlk,qBp];exact qD8 _
   · exact q6
   · by_cases e:k=p
     · subst e
       exact⟨t,List.getElem?_set_self hlk⟩
     · rw[List.getElem?_set_ne e] at hp⊢
       exact h.seen p hp
   · refine qA8 (Nat.le_of_lt (qEc (by simp) (by rw[List.length_set,h.lenw,hll]) ?_)) h.less
     rw[qBO hlk];exact qHI hlk (qCA hx) h8
 · have hcu:=(h.runF.run.can k u (qA7 hx)).1
   have hg:leS (toS l1) (toS (l1.set k (true,joinL u t))):=by
    rw[qBO hlk];refine qHQ fun z hz=> ?_;rw[qA7 hx] at hz;injection hz with hz;subst hz;exact⟨_,rfl,qGt hn⟩
   have hrun:RunF m fn (l1.set k (true,joinL u t)):=⟨by simpa using h.runF.len,by rw[qBO hlk];exact qDu h.runF.run hu hi hf hk (qA7 hx) hn hc⟩;have hled:∀j∈done++[(k:Int)],leO (some t) (toS (l1.set k (true,joinL u t)) j.toNat):=fun j hj=>by
    rcases List.mem_append.1 hj with hj|hj
    · exact qCb (h.led j hj) (hg _)
    · simp only[List.mem_singleton] at hj
      subst hj;rw[Int.toNat_natCast,qBO hlk,qBp];intro z hz;injection hz with hz;subst hz;exact⟨_,rfl,qDS hn⟩
   have hout:∀(p:Nat) (s:List Typ),(l1.set k (true,joinL u t))[p]? =some (false,s)→s=[]:=fun p s hp=>by
    by_cases e:k=p
    · subst e
      rw[List.getElem?_set_self hlk] at hp
      cases hp
    · rw[List.getElem?_set_ne e] at hp
      exact h.out p s hp
   rcases hw with⟨he,rfl⟩|⟨hne,rfl⟩
   · have hs:l1.set k (true,joinL u t)=l1:=by rw[he];exact qDr hx
     rw[hs] at hrun hled hout⊢;exact⟨hrun,h.lenw,h.grow,h.still,hled,hout,h.seen,h.less⟩
   · refine⟨hrun,by simpa using h.lenw,qEm h.grow hg,fun p hp=> ?_,hled,hout,fun p hp=> ?_,?_⟩
     · exact zI
     · by_cases e:k=p
       · subst e
         exact⟨_,List.getElem?_set_self hlk⟩
       · rw[List.getElem?_set_ne e] at hp⊢
         exact h.seen p hp
     · refine qA8 (Nat.le_of_lt (qEc (by simp) (by rw[List.length_set,h.lenw,hll]) ?_)) h.less
       rw[qBO hlk];exact qFZ hlk (qA7 hx) hcu hc hn hne
theorem Leads.ends {l':List Shape} {ws':List Bool} {pc:Nat} (h:Leads m fn l (ws.set pc false) t ks l' ws') (hI:Inv m fn l ws) (hx:l[pc]? =some (true,s)) (hw:ws[pc]? =some true) (hi:fn.code[pc]? =some i) (hf:insB8 m fn i pc s=(0,t,ks)):Inv m fn l' ws'∧todo l' ws'<todo l ws:=by
 have hc:=qII hw;refine⟨⟨fun p hp=> ?_,h.out,h.seen⟩,Nat.lt_of_le_of_lt h.less (by unfold todo;omega)⟩;obtain⟨h1,h2⟩:=h.still p hp
 by_cases e:pc=p
 · subst e
   intro z hz;rw[hx] at h2;rw[qA7 h2] at hz;injection hz with hz;subst hz;exact⟨i,t,ks,hi,hf,h.led⟩
 · rw[List.getElem?_set_ne e] at h1
   intro z hz;have h3:toS l p=some z:=by unfold toS at hz ⊢;rwa [h2] at hz
   obtain⟨i',t',ks',q1,q2,q3⟩:=hI.1 p h1 z h3;exact⟨i',t',ks',q1,q2,fun k hk=>qCb (q3 k hk) (h.grow _)⟩
def WentOn (n0 g p q:Nat) (Z:Nat→Option Nat) (x:Mod) (fn:Fn) (l:List Shape) (ws:List Bool) (w:World) (e:Ending) (w':World):Prop:=
 Turn Z w w'∧((e= .returned (.bool false)∧Never x fn)∨(e= .returned (.bool true)∧∃Z' r' l' ws',Wk n0 g p q Z' w' l' ws' r'∧(∀b,b<w.heap.size→Z' b=Z b)∧RunF x fn l'∧Inv x fn l' ws'∧todo l' ws'<todo l ws))
def Led (n0 g p q:Nat) (Z:Nat→Option Nat) (x:Mod) (fn:Fn) (l:List Shape) (ws:List Bool) (t:List Typ) (ks:List Int) (w5:World) (m:Nat) (wr:World):Prop:=
 Turn Z w5 wr∧∃Zr rr lr wsr,Wk n0 g p q Zr wr lr wsr rr∧(∀b,b<w5.heap.size→Zr b=Z b)∧Leads x fn l ws t (ks.take m) lr wsr
theorem qJY (n0 g p q:Nat) (Z:Nat→Option Nat) (w:World) (l:List Shape) (ws:List Bool) (r:List (Bool×Value)) (cs:List Value) (x:Mod) (j pc:Nat) (fn:Fn) (s:List Typ) (h:Wk n0 g p q Z w l ws r) (hn0:n0≤w.heap.size) (hm:modL.R (·<n0) w cs x) (hc:checkN x=0) (hfn:x.funcs[j]? =some fn) (hR:RunF x fn l) (hx:l[pc]? =some (true,s)) (hw:ws[pc]? =some true) (hI:Inv x fn l ws):
 Calls Tryz.prog 45 #[.pointer (some ⟨g,0,none⟩),vAgg cs,.int .i64 (j:Nat),.int .i64 (pc:Nat)] w (WentOn n0 g p q Z x fn l ws w):=by
 have hmem:=qAl hfn;obtain⟨-,-,hcode,-⟩:=qBR hc hmem;have hpl:=(qAj.1 hx).1;obtain⟨i,hi⟩:∃i,fn.code[pc]? =some i:=⟨fn.code[pc]'(by rw[←hR.len];exact hpl),List.getElem?_eq_getElem _⟩;have hu:=hR.run.und (qA7 hx);obtain⟨hcan,hs8⟩:=hR.run.can pc s (qA7 hx);have hfl:flowB x (j:Int) (pc:Int) s=insB8 x fn i pc s:=qEE hc hfn hi;obtain⟨A,cA,hr,hc0,hc1,hst,hle,hcm,hnil⟩:=h.cells hx;simp only at hr hc1 hst hle;have hj8:j<9:=by have:=(qA1.1 (qAw hc)).f8;have:=(qAj.1 hfn).1;omega
 have hpc2:pc<1000000:=by rw[hR.len] at hpl;omega
 obtain⟨n,hn⟩:∃n,l.length=n:=⟨_,rfl⟩;obtain⟨er,t,ks,hfe⟩:∃er t ks,insB8 x fn i pc s=(er,t,ks):=⟨_,_,_,rfl⟩;obtain⟨nk,hnk⟩:∃nk,ks.length=nk:=⟨_,rfl⟩;obtain⟨nt,hnt⟩:∃nt,t.length=nt:=⟨_,rfl⟩;have hcm2:cA≤9223372036854775807:=by unfold maxLen at hcm;omega
 have hlow:=h.low0;have FA:Hid (∀v,Below n0 w v→Sq typL (·<v.heap.size) v A s→Calls Tryz.prog 46 #[vAgg cs,.int .i64 (j:Int),.int .i64 (pc:Int),.slice A s.length cA] v (Flows (er,t,ks) v)):=fun v hb hs=>by
  have hm2:modL.R (·<v.heap.size) v cs x:=modL.wide (modL.keep hm fun b h1=>hb.block b h1) fun b h1=>qAh h1 (qA8 hn0 hb.size);have:=qF5 cs x (j:Int) (pc:Int) A s.length cA s v hm2 ⟨by omega,by omega⟩ ⟨by omega,by omega⟩ rfl hs (by omega) hle hcm2 hnil
  rwa [hfl,hfe] at this
 have HSt:Hid (∀v W,Below W.heap.size W v→Stk n0 W (.slice A s.length cA) s→Sq typL (·<v.heap.size) v A s):=fun v W hb hs=>(hs.sq.keep fun b h1=>hb.block b h1.2).wide fun b h1=>qAh h1.2 hb.size;obtain⟨A0,A1,A2,A3,A4,n0',n1,n2,n3,n4,d0,d1,d2,d3,d4,rfl⟩:=qCa hm;have HW:=qAg h;have HX:=qAg hx;have HWt:=qAg hw;have HN:=qAg hn;have HR:=qAg hR;have HI:=qAg hI;have HU:=qAg hu;have HIn:=qAg hi;have HFE:=qAg hfe;have HC:=qAg hc;have HM:=qAg hmem;have HCan:=qAg hcan;have HRr:=qAg hr;have HLow:=qAg hlow;have HNK:=qAg hnk;have HNT:=qAg hnt;have hpn:(pc:Int)<(n:Int):=by omega
 have hp0:(0:Int)≤(pc:Int):=by omega
 have hn64:n≤64:=by rw[←hn,hR.len];exact hcode
 have hln:l.length=fn.code.length:=hR.len;have HLN:=qAg hln;obtain⟨ns,hns⟩:∃ns,s.length=ns:=⟨_,rfl⟩;rw[hns] at FA HSt HRr;have HNS:=qAg hns;clear h hx hw hn hR hI hu hi hfe hc hmem hcan hr hfl hc0 hc1 hst hm hlow hfn hcode hpl hnk hnt hln hns;simp only[vAgg] at FA⊢
 go_enter Tryz.func45,Tryz.ntmps45
 go_upto_region 1 with(fail)
 refine qAs fun W1 hW1=> ?_;have HB1:Hid (Below w.heap.size w W1):=by show Below _ _ _;rw[hW1];exact qAo w _
 have HBx:Hid (Blk W1 w.heap.size 28 #[.slice A0 n0' d0,.slice A1 n1 d1,.slice A2 n2 d2,.slice A3 n3 d3,.slice A4 n4 d4]):=by show Blk _ _ _ _;rw[hW1];exact qA9 rfl
 have hW1w:=HW.out.below HB1.out;have hs1:w.heap.size<W1.heap.size:=by rw[hW1];simp
 clear hW1;have g1:=hW1w.box.cell 1;rw[HN.out] at g1;have g1:W1.cell? ⟨g,1,none⟩=some (.slice (some ⟨q,0,none⟩) n n):=g1;have g2:=(hW1w.wai.cellAt pc (by rw[HN.out];omega)).trans (qFN HWt.out);have g3:=hW1w.wai.frozenAt pc;have HW1:=qAg hW1w;clear hW1w
 go_upto_region 2 with(fail)
 refine qAs fun W2 hW2=> ?_;have HW2:Hid (Wk n0 g p q Z W2 l (ws.set pc false) r):=by show Wk _ _ _ _ _ _ _ _ _;rw[hW2];exact HW1.out.wait pc false
 have HT2:Hid (Turn Z w W2):=by show Turn _ _ _;rw[hW2];exact(Turn.of_below HB1.out).set (by rw[HW.out.zq];simp) _
 have HB2:Hid (Blk W2 w.heap.size 28 #[.slice A0 n0' d0,.slice A1 n1 d1,.slice A2 n2 d2,.slice A3 n3 d3,.slice A4 n4 d4]):=by show Blk _ _ _ _;rw[hW2];exact qEr HBx.out (by have:=(HW.out.low q (by rw[HW.out.zq];simp)).2;omega)
 have hs2:w.heap.size<W2.heap.size:=by rw[hW2];simpa[World.setCell] using hs1
 clear hW2 g1 g2 g3;have HCV:Hid (∀v,Below W2.heap.size W2 v→v.cell? ⟨w.heap.size,0,none⟩=some (.slice A0 n0' d0)∧v.cell? ⟨w.heap.size,1,none⟩=some (.slice A1 n1 d1)∧v.cell? ⟨w.heap.size,2,none⟩=some (.slice A2 n2 d2)∧v.cell? ⟨w.heap.size,3,none⟩=some (.slice A3 n3 d3)∧v.cell? ⟨w.heap.size,4,none⟩=some (.slice A4 n4 d4)∧v.cell? ⟨g,0,none⟩=some (.slice (some ⟨p,0,none⟩) n n)∧v.cell? ⟨p,pc*2+1,none⟩=some (.slice A ns cA)):=fun v hb=>by
  have hf:=qAx HB2.out hb hs2;have hv:=HW2.out.below hb;have k0:=hv.box.cell 0;rw[HN.out] at k0;obtain⟨A',c',e1,-,h2,-⟩:=hv.cells HX.out;rw[HRr.out] at e1;simp only[Option.some.injEq,Prod.mk.injEq,true_and,Value.slice.injEq] at e1;obtain⟨rfl,-,rfl⟩:=e1;simp only[HNS.out] at h2;exact⟨hf.cell 0,hf.cell 1,hf.cell 2,hf.cell 3,hf.cell 4,k0,h2⟩
 have hstk:Stk n0 W2 (.slice A ns cA) s:=by
  obtain⟨v,h1,h2,-⟩:=HW2.out.stk pc _ HX.out;rw[HRr.out] at h1;simp only[Option.some.injEq,Prod.mk.injEq,true_and] at h1;rw[h1];exact h2
 have FA2:Hid (∀v,Below W2.heap.size W2 v→Calls Tryz.prog 46 #[.agg #[.slice A0 n0' d0,.slice A1 n1 d1,.slice A2 n2 d2,.slice A3 n3 d3,.slice A4 n4 d4],.int .i64 (j:Int),.int .i64 (pc:Int),.slice A ns cA] v (Flows (er,t,ks) v)):=fun v hb=>FA.out v ((HT2.out.then hb).below hn0 HLow.out) (HSt.out v W2 hb hstk);have SW:=qAg (HCV.out W2 (qAk _ _));clear FA HSt hstk
 go_region_held3 (fun v=>v.cell? ⟨w.heap.size,0,none⟩=some (.slice A0 n0' d0)∧v.cell? ⟨w.heap.size,1,none⟩=some (.slice A1 n1 d1)∧v.cell? ⟨w.heap.size,2,none⟩=some (.slice A2 n2 d2)∧v.cell? ⟨w.heap.size,3,none⟩=some (.slice A3 n3 d3)∧v.cell? ⟨w.heap.size,4,none⟩=some (.slice A4 n4 d4)∧v.cell? ⟨g,0,none⟩=some (.slice (some ⟨p,0,none⟩) n n)∧v.cell? ⟨p,pc*2+1,none⟩=some (.slice A ns cA))
  (first|exact SS5.out|exact SW.out|exact HCV.out _ (qAk _ W2).drew)
  (first
  |(go_at_call 46
    refine(FA2.out _ (qAk _ W2).drew).mono ?_;intro e w5 hq;obtain⟨hb5,v5,u5,rfl,ho5,hu5,h64⟩:=qEC hq;have HB5:Hid (Below W2.heap.size W2 w5):=(by show Below _ _ _;exact(qAk _ W2).drew.trans (hb5.mono (by simp)));have SS5:=qAg (HCV.out _ HB5.out);obtain⟨A5,c5,rfl,-,hle5,-,hsq5⟩:=qCl ho5 h64;obtain⟨B5,d5,rfl,-,-,hnu5⟩:=qDz hu5;have HSQ5:=qAg hsq5;have HNU5:=qAg hnu5;clear hb5 ho5 hu5 h64 hsq5 hnu5 hq))
 have HT5:Hid (Turn Z w w5):=HT2.out.then HB5.out;have hs5:w.heap.size<w5.heap.size:=qAh hs2 HB5.out.size
 by_cases he:er=0
 rotate_left
 · have hne:(er != 0)=true:=by simpa using he
   go_wp2_with fail
   go_ret;exact⟨HT5.out,.inl ⟨rfl,qC6 HU.out HIn.out (by rw[HFE.out];exact he)⟩⟩
 subst he;obtain⟨hct,h8t⟩:=qED HC.out HM.out HCan.out HFE.out;have HTh:=qAg (qCo HC.out HM.out HIn.out HFE.out);have HCt:=qAg hct;have HZn:Hid (∀b,W2.heap.size≤b→Z b=none):=fun b hb=>by
  cases e:Z b with
  |none=>rfl
  |some k=>exact absurd (HW.out.low b (by rw[e];simp)).2 (by omega)
 have hwl:(ws.set pc false).length=l.length:=by rw[List.length_set];exact HW.out.lenw
 have HL0:Hid (Led n0 g p q Z x fn l (ws.set pc false) t ks w5 0 w5):=⟨Turn.refl _ _,Z,r,l,ws.set pc false,HW2.out.below HB5.out,fun _ _=>rfl,Leads.begin t HR.out hwl HI.out.2.1 fun p hp=>by
  by_cases e:pc=p
  · subst e;exact⟨s,HX.out⟩
  · rw[List.getElem?_set_ne e] at hp;exact HI.out.2.2 p hp⟩
 rw[HNK.out,HNT.out];rw[HNT.out] at hle5 h8t;have hk64:nk≤2:=by
  rw[←HNK.out];exact qFn HFE.out
 clear hct hwl SS5 SW
 go_wp2_with fail
 go_loopw [40] (fun i wr=>∃m:Nat,m≤nk∧i= .int .i64 (m:Nat)∧Led n0 g p q Z x fn l (ws.set pc false) t ks w5 m wr) (fun i _=>nk-(intOf i).toNat)
 case atStart=>exact⟨0,qAq _,rfl,HL0.out⟩
 case round=>
  obtain⟨m,hm,rfl,hT,Zr,rr,lr,wsr,hWr,hzr,hLd⟩:=hrel;have HT:=qAg hT;have HWr:=qAg hWr;have HZr:=qAg hzr;have HLd:=qAg hLd;clear hT hWr hzr hLd HL0
  by_cases hlt:m<nk
  · obtain⟨k,hk⟩:∃k,ks[m]? =some k:=⟨ks[m]'(by rw[HNK.out];exact hlt),List.getElem?_eq_getElem _⟩
    have hkm:=qAl hk;obtain⟨hk0,hkl⟩:=HTh.out k hkm;obtain⟨kn,rfl⟩:∃kn:Nat,k=(kn:Int):=⟨k.toNat,by omega⟩;rw[Int.toNat_natCast] at hkl;obtain⟨aB,rfl,hB1,hB2,hB3⟩:=HNU5.out m _ hk;have hcell:=(qAy (HT.out.block (aB.add m).block (by rw[qAz];exact hB2) (HZn.out _ (by rw[qAz];simpa using hB1)))).trans hB3;have HKM:=qAg hkm;have HTk:Hid (ks.take (m+1)=ks.take m++[(kn:Int)]):=by
     show _=_
     obtain⟨h1,h2⟩:=qAj.1 hk;rw[qAp h1,h2]
    have hsr:=HT.out.size;have RE:Hid (Calls Tryz.prog 66 #[.pointer (some ⟨g,0,none⟩),.int .i64 (kn:Nat),.slice A5 nt c5] wr (Reached n0 g p q Zr wr lr wsr kn t)):=
     qEg n0 g p q Zr wr lr wsr rr kn A5 nt c5 t HWr.out (by omega) (by rw[HLd.out.runF.len];exact hkl) (by rw[HLd.out.runF.len,←HLN.out,HN.out];omega) HNT.out h8t
      ((HSQ5.out.keep fun b h1=>HT.out.block b h1.2 (HZn.out b (by simpa using h1.1))).wide fun b h1=>⟨qAh h1.2 hsr,by rw[HZr.out b h1.2];exact HZn.out b (by simpa using h1.1)⟩)
    have hkl2:kn<64:=by rw[←HLN.out,HN.out] at hkl;omega
    have hm0:(0:Int)≤(m:Int):=by omega
    have hm1:(m:Int)<(nk:Int):=by omega
    clear hk hkm hB1 hB2 hB3 hk0
    go_wp2_with fail
    refine RE.out.mono ?_;rintro e w6 ⟨hT6,⟨rfl,u,hu,hne⟩|⟨rfl,Z6,r6,l6,ws6,hW6,hz6,hrch⟩⟩
    · have HT6:=qAg hT6
      have HNev:=qAg (qCO HLd.out.runF.run HU.out HIn.out HFE.out HKM.out (qA7 hu) hne);clear hT6 hu hne
      go_wp2_with fail
      go_ret;exact⟨HT5.out.trans (HT.out.trans HT6.out fun b h1 h2=>by rw[HZr.out b h1];exact h2) fun _ _ h=>h,.inl ⟨rfl,HNev.out⟩⟩
    · have HT6:=qAg hT6
      have HW6:=qAg hW6;have HZ6:=qAg hz6;have HRch:=qAg hrch;clear hT6 hW6 hz6 hrch
      go_wp2_with fail
      refine⟨⟨m+1,by omega,by simp,HT.out.trans HT6.out fun b h1 h2=>by rw[HZr.out b h1];exact h2,Z6,r6,l6,ws6,HW6.out,fun b hb=>(HZ6.out b (qAh hb hsr)).trans (HZr.out b hb),?_⟩,by simp[intOf];omega⟩;rw[HTk.out];exact HLd.out.step HLN.out HRch.out HU.out HIn.out HFE.out HKM.out HCt.out (by rw[HNT.out];exact h8t) hkl
  · obtain rfl:m=nk:=by omega
    go_wp2_with fail
    go_ret;have hL:=HLd.out;rw[qAn (by rw[HNK.out];exact qAi _)] at hL;obtain⟨h1,h2⟩:=hL.ends HI.out HX.out HWt.out HIn.out HFE.out;exact⟨HT5.out.trans HT.out fun _ _ h=>h,.inr ⟨rfl,Zr,rr,lr,wsr,HWr.out,fun b hb=>HZr.out b (by omega),hL.runF,h1,h2⟩⟩
def Shaped (x:Mod) (fn:Fn) (w:World) (e:Ending) (w':World):Prop:=
 Below w.heap.size w w'∧((∃U l v,e= .returned (.tuple #[v,.int .i64 0,.bool true])∧Least x fn l∧(∀b,U b→w.heap.size≤b∧b<w'.heap.size)∧(rowU U).R (fun b=>w.heap.size≤b∧b<w'.heap.size) w' [v] l)∨
  (∃pc:Nat,pc<fn.code.length∧e= .returned (.tuple #[.slice none 0 0,.int .i64 (pc:Int),.bool false])∧Never x fn))
def AtLabel (x:Mod) (fn:Fn) (W:World) (A0 A1 A2 A3 A4:Option Addr) (n0 n1 n2 n3 n4 d0 d1 d2 d3 d4 j B:Nat) (n:Nat) (a':Act) (w':World):Prop:=
 Below W.heap.size W w'∧∃g p q Z r l ws,Wk W.heap.size g p q Z w' l ws r∧RunF x fn l∧Inv x fn l ws∧n=todo l ws∧
  ∃u3 u4 u5 u6 u8 u9 u10 u11 u12 u13 u14 u15 u16 u17 u18 u19 u20 u21 u22 u23 u24 u25 u26 u27 u28 u29 u30 u31 u32 u33 u34 u35 u36 u37 u38 u39 u40 u41:Value,a'={tmps:= #[.agg #[.slice A0 n0 d0,.slice A1 n1 d1,.slice A2 n2 d2,.slice A3 n3 d3,.slice A4 n4 d4],.int .i64 (j:Int),.pointer (some ⟨B,0,none⟩),u3,u4,u5,u6,.pointer (some ⟨g,0,none⟩),u8,u9,u10,u11,u12,u13,u14,u15,u16,u17,u18,u19,u20,u21,u22,u23,u24,u25,u26,u27,u28,u29,u30,u31,u32,u33,u34,u35,u36,u37,u38,u39,u40,u41],defers:=[]}
theorem qGU (cs:List Value) (x:Mod) (j:Nat) (fn:Fn) (w:World) (hm:modL.R (·<w.heap.size) w cs x) (hc:checkN x=0) (hfn:x.funcs[j]? =some fn):
 Calls Tryz.prog 24 #[vAgg cs,.int .i64 (j:Nat)] w (Shaped x fn w):=by
 have HM:=qAg hm;have hmem:=qAl hfn;obtain⟨-,-,hcode,-⟩:=qBR hc hmem;have hcode0:0<fn.code.length:=by
  have:=(qA1.1 (qAw hc)).funcs fn hmem;simp only[fnOk,Bool.and_eq_true,qBH] at this
  omega
 obtain⟨_,_,_,_,_,rfl,⟨A0,d0,e0,-⟩,⟨A1,d1,e1,l1,m1,s1⟩,⟨A2,d2,e2,-⟩,⟨A3,d3,e3,-⟩,⟨A4,d4,e4,-⟩⟩:=hm;simp only[List.cons.injEq,and_true] at e0 e1 e2 e3 e4;subst e0 e1 e2 e3 e4;have hj8:j<x.funcs.length:=(qAj.1 hfn).1;refine z9 ?_;intro n0 h0 n1 h1 n2 h2;refine jx ?_;intro n3 h3 n4 h4;rw[h0,h1,h2,h3,h4] at HM⊢;rw[h1] at hj8;obtain⟨a,ccs,ea,hab,hcl,hR⟩:=s1.at hfn;subst ea;obtain⟨p0,p1,p2,rfl,-,-,⟨P0,c0,e4,-⟩,⟨P1,c1,e5,-⟩,⟨P2,c2,e6,-⟩⟩:=hR;simp only[List.cons.injEq,and_true] at e4 e5 e6;subst e4 e5 e6;obtain⟨uc,g2⟩:∃n,fn.code.length=n:=⟨_,rfl⟩;rw[g2] at hcl hcode hcode0;have HCL:Hid (∀v,Below w.heap.size w v→v.cell? ⟨(a.add (j*5)).block,(a.add (j*5)).off+4,none⟩=some (.slice P2 uc c2)):=fun v hb=>by
  have k4:=(hb.cell (p:=a.add (j*5+4)) qB).trans (hcl 4 _ rfl);rw[qAm a (j*5) 4 (by omega)] at k4;exact k4
 have BE:=qAg (qIR uc hcode0 hcode);have HG2:=qAg g2;have HC:=qAg hc;have HF:=qAg hfn;have hj0:(0:Int)≤(j:Int):=by omega
 have hj1:(j:Int)<(n1:Int):=by omega
 clear hmem s1 hcl h0 h1 h2 h3 h4 g2 hc hfn l1 m1
 show Calls Tryz.prog 24 #[.agg #[.slice A0 n0 d0,.slice (some a) n1 d1,.slice A2 n2 d2,.slice A3 n3 d3,.slice A4 n4 d4],.int .i64 (j:Int)] w (Shaped x fn w)
 go_enter Tryz.func24,Tryz.ntmps24
 go_wp2_with fail
 refine qAs fun W hW=> ?_;refine ju ?_;intro HBW;refine qAc ?_;intro HBx;have hsW:w.heap.size<W.heap.size:=by rw[hW];simp
 clear hW;have HBV:Hid (∀v,Below W.heap.size W v→v.cell? ⟨w.heap.size,0,none⟩=some (.slice A0 n0 d0)∧v.cell? ⟨w.heap.size,1,none⟩=some (.slice (some a) n1 d1)∧v.cell? ⟨w.heap.size,2,none⟩=some (.slice A2 n2 d2)∧v.cell? ⟨w.heap.size,3,none⟩=some (.slice A3 n3 d3)∧v.cell? ⟨w.heap.size,4,none⟩=some (.slice A4 n4 d4)):=fun v hb=>by
  have hf:=qAx HBx.out hb hsW;exact⟨hf.cell 0,hf.cell 1,hf.cell 2,hf.cell 3,hf.cell 4⟩
 have HMV:Hid (∀v,Below W.heap.size W v→modL.R (·<W.heap.size) v [.slice A0 n0 d0,.slice (some a) n1 d1,.slice A2 n2 d2,.slice A3 n3 d3,.slice A4 n4 d4] x):=fun v hb=>modL.wide (modL.keep HM.out fun b h1=>(HBW.out.trans (hb.mono HBW.out.size)).block b h1) fun b h1=>Nat.lt_trans h1 hsW;refine qDj (AtLabel x fn W A0 (some a) A2 A3 A4 n0 n1 n2 n3 n4 d0 d1 d2 d3 d4 j w.heap.size) rfl ?_ ?_
 · obtain⟨-,z1,-,-,-⟩:=HBV.out W (qAk _ _)
   have z2:=HCL.out W HBW.out
   go_wp2_with fail
   refine(BE.out W).mono ?_;rintro e V ⟨hbV,g,p,q,Z,r,rfl,hWk⟩;have HBV2:=qAg hbV;have HWk:=qAg hWk;clear hbV hWk
   go_wp2_with fail
   refine⟨todo _ _,HBV2.out,g,p,q,Z,r,_,_,HWk.out,?_,⟨fun k hk=> ?_,fun k s hk=> ?_,fun k hk=> ?_⟩,rfl,_,_,_,_,_,_,_,_,_,_,_,_,_,_,_,_,_,_,_,_,_,_,_,_,_,_,_,_,_,_,_,_,_,_,_,_,_,_,rfl⟩
   · have:=qCq (m:=x) (fn:=fn) (by rw[HG2.out];exact hcode0)
     rwa [HG2.out] at this
   · intro s hs
     have hs:=qDm hs
     by_cases e:0=k
     · subst e
       rw[List.getElem?_set_self (by simpa using hcode0)] at hk
       cases hk
     · unfold beginF at hs
       rw[List.getElem?_set_ne e,List.getElem?_replicate] at hs;split at hs<;>cases hs
   · by_cases e:0=k
     · subst e
       unfold beginF at hk;rw[List.getElem?_set_self (by simpa using hcode0)] at hk
       cases hk
     · unfold beginF at hk
       rw[List.getElem?_set_ne e,List.getElem?_replicate] at hk;split at hk
       · injection hk with hk;injection hk with _ hk;exact hk.symm
       · cases hk
   · by_cases e:0=k
     · subst e
       exact⟨[],by unfold beginF;rw[List.getElem?_set_self (by simpa using hcode0)]⟩
     · rw[List.getElem?_set_ne e,List.getElem?_replicate] at hk
       split at hk<;>cases hk
 · rintro n a' V ⟨hbV,g,p,q,Z,r,l,ws,hWk,hRun,hInv,rfl,u3,u4,u5,u6,u8,u9,u10,u11,u12,u13,u14,u15,u16,u17,u18,u19,u20,u21,u22,u23,u24,u25,u26,u27,u28,u29,u30,u31,u32,u33,u34,u35,u36,u37,u38,u39,u40,u41,rfl⟩
   obtain⟨nl,hnl⟩:∃nl,l.length=nl:=⟨_,rfl⟩;have g0:=hWk.box.cell 0;have g1:=hWk.box.cell 1;rw[hnl] at g0 g1;have g0:V.cell? ⟨g,0,none⟩=some (.slice (some ⟨p,0,none⟩) nl nl):=g0;have g1:V.cell? ⟨g,1,none⟩=some (.slice (some ⟨q,0,none⟩) nl nl):=g1;have HBV3:=qAg hbV;have HW:=qAg hWk;have HR:=qAg hRun;have HI:=qAg hInv;have HNL:=qAg hnl;have hl64:nl≤64:=by rw[←hnl,hRun.len,HG2.out];exact hcode
   have HWL:Hid (ws.length=nl):=by show _=_;rw[hWk.lenw];exact hnl
   clear hWk hRun hInv hnl hbV
   go_wp2_with fail
   go_loopw [23] (fun i wr=>∃k:Nat,k≤nl∧i= .int .i64 (k:Nat)∧(∀m,m<k→ws[m]? =some false)∧wr=V) (fun i _=>nl-(intOf i).toNat)
   case atStart=>exact⟨0,qAq _,rfl,fun m hm=>absurd hm (by omega),rfl⟩
   case round=>
    obtain⟨k,hk,rfl,hall,rfl⟩:=hrel;have HA:=qAg hall;clear hall
    by_cases hlt:k<nl
    · obtain⟨b,hb⟩:∃b,ws[k]? =some b:=⟨ws[k]'(by rw[HWL.out];exact hlt),List.getElem?_eq_getElem _⟩
      have hcell:=(HW.out.wai.cellAt k (by rw[HNL.out];omega)).trans (qFN hb);have HB:=qAg hb;have k0:(0:Int)≤(k:Int):=by omega
      have k1:(k:Int)<(nl:Int):=by omega
      clear hb
      cases b
      · go_wp2_with fail
        refine⟨⟨k+1,by omega,by simp,fun m hm=> ?_,trivial⟩,by simp[intOf];omega⟩
        by_cases e:m=k
        · rw[e];exact HB.out
        · exact HA.out m (by omega)
      · obtain⟨s,hs⟩:=HI.out.2.2 k HB.out
        obtain⟨y0,y1,y2,y3,y4⟩:=HBV.out _ HBV3.out;have GO:=qAg (qJY W.heap.size g p q Z _ l ws r _ x j k fn s HW.out HBV3.out.size (HMV.out _ HBV3.out) HC.out HF.out HR.out hs HB.out HI.out);have hlow:=qAg HW.out.low0;clear hs;simp only[vAgg] at GO
        go_wp2_with fail
        refine GO.out.mono ?_;rintro e w6 ⟨hT6,⟨rfl,hne⟩|⟨rfl,Z6,r6,l6,ws6,hW6,hz6,hR6,hI6,hless⟩⟩
        · have HT6:=qAg (hT6.below HBV3.out.size hlow.out)
          have HNe:=qAg hne;clear hT6 hne
          go_wp2_with fail
          simp only[Exit.jump]
          go_ret3
          exact⟨HBW.out.trans ((HBV3.out.trans HT6.out).mono HBW.out.size),.inr ⟨k,by rw[←HR.out.len,HNL.out];exact hlt,rfl,HNe.out⟩⟩
        · have HT6:=qAg (hT6.below HBV3.out.size hlow.out)
          have HW6:=qAg hW6;have HR6:=qAg hR6;have HI6:=qAg hI6;have HL6:=qAg hless;clear hT6 hW6 hz6 hR6 hI6 hless
          go_wp2_with fail
          go_step3
          exact⟨rfl,todo l6 ws6,HL6.out,HBV3.out.trans HT6.out,g,p,q,Z6,r6,l6,ws6,HW6.out,HR6.out,HI6.out,rfl,_,_,_,_,_,_,_,_,_,_,_,_,_,_,_,_,_,_,_,_,_,_,_,_,_,_,_,_,_,_,_,_,_,_,_,_,_,_,rfl⟩
    · obtain rfl:k=nl:=by omega
      go_wp2_with fail
      simp only[Exit.jump]
      go_ret3
      have hle:Least x fn l:=⟨HR.out.len,HI.out.2.1,HR.out.run,fun p hp=>HI.out.1 p (HA.out p (by rw[←HR.out.len,HNL.out] at hp;exact hp))⟩;refine⟨HBW.out.trans (HBV3.out.mono HBW.out.size),.inl ⟨fun b=>∃k,Z b=some (k+3),l,_,rfl,hle,fun b hb=> ?_,?_⟩⟩
      · obtain⟨i,hi⟩:=hb
        have:=HW.out.low b (by rw[hi];simp)
        omega
      · have:=HW.out.done
        rw[HNL.out] at this;exact(rowU _).wide this fun b hb=>by omega
theorem qI9 (cs:List Value) (x:Mod) (w:World) (h:modL.R (·<w.heap.size) w cs x):Calls Tryz.prog 23 #[vAgg cs] w (Tells (mainB x) w):=by
 refine jO ?_;intro TE;obtain⟨_,_,_,_,_,rfl,⟨A0,d0,e0,-⟩,⟨A1,d1,e1,l1,m1,s1⟩,⟨A2,d2,e2,-⟩,⟨A3,d3,e3,-⟩,⟨A4,d4,e4,-⟩⟩:=h;simp only[List.cons.injEq,and_true] at e0 e1 e2 e3 e4;subst e0 e1 e2 e3 e4;obtain⟨n1,h1⟩:∃n,x.funcs.length=n:=⟨_,rfl⟩;rw[h1] at TE⊢;generalize x.recs.length=n0 at*;generalize x.imps.length=n2 at*;generalize x.ints.length=n3 at*;generalize x.texts.length=n4 at*;refine jK ?_;intro TE2;clear TE
 show Calls Tryz.prog 23 #[.agg #[.slice A0 n0 d0,.slice A1 n1 d1,.slice A2 n2 d2,.slice A3 n3 d3,.slice A4 n4 d4]] w (Tells (mainB x) w)
 refine jW ?_;intro HB0;refine zy ?_;intro HC0
 by_cases hc:checkN x=0
 rotate_left
 · have HN:=qAg (qEk hc)
   have b:(checkN x != 0)=true:=by simpa using hc
   generalize mainB x=mb at*;generalize checkN x=cn at*;clear hc s1 h1
   go_enter Tryz.func23,Tryz.ntmps23
   go_wp2_with (first
    |(go_at_call 22
      refine(TE2.out _ (HB0.out _)).mono ?_;rintro e w1 ⟨rfl,hb1⟩;refine jU ?_;intro HB1;clear hb1))
   go_ret;exact⟨by rw[HN.out];rfl,HB1.out⟩
 · have hF:=qA1.1 (qAw hc)
   have hf1:=hF.f1;have hf8:=hF.f8;obtain⟨f,fs,hfs⟩:∃f fs,x.funcs=f::fs:=by
    cases hx:x.funcs with
    |nil=>rw[hx] at hf1;simp at hf1
    |cons f fs=>exact⟨f,fs,rfl⟩
   have HN:=qAg (qEj hc hfs);rw[hc] at TE2;obtain⟨a,cs,ea,hab,hcl,hR⟩:=s1.at (k:=0) (x:=f) (by rw[hfs];rfl);subst ea;obtain⟨p0,p1,p2,rfl,-,-,⟨P0,c0,e4,-⟩,⟨P1,c1,e5,-⟩,⟨P2,c2,e6,-⟩⟩:=hR;simp only[List.cons.injEq,and_true] at e4 e5 e6;subst e4 e5 e6;have HCL:Hid (∀w1,Below w.heap.size w w1→w1.cell? a=some (.slice P0 f.args.length c0)∧w1.cell? ⟨a.block,a.off+1,none⟩=some (.int .i64 f.ret.1)∧w1.cell? ⟨a.block,a.off+2,none⟩=some (.int .i64 f.ret.2)∧w1.cell? ⟨a.block,a.off+3,none⟩=some (.slice P1 f.locs.length c1)∧w1.cell? ⟨a.block,a.off+4,none⟩=some (.slice P2 f.code.length c2)):=fun w1 hb=>by
    have k0:=hcl 0 _ rfl;have k1:=hcl 1 _ rfl;have k2:=hcl 2 _ rfl;have k3:=hcl 3 _ rfl;have k4:=hcl 4 _ rfl;simp only[Nat.zero_mul,Nat.zero_add] at k0 k1 k2 k3 k4;have e0:a.add 0=a:=by simp[Addr.add]
    have en:∀i,0<i→a.add i=⟨a.block,a.off+i,none⟩:=fun i hi=>by
     have h:i≠0:=by omega
     simp[Addr.add,h]
    rw[e0] at k0;rw[en _ (by omega)] at k1 k2 k3 k4;exact⟨(hb.cell (p:=a) hab).trans k0,(hb.cell (p:=⟨a.block,a.off+1,none⟩) hab).trans k1,(hb.cell (p:=⟨a.block,a.off+2,none⟩) hab).trans k2,(hb.cell (p:=⟨a.block,a.off+3,none⟩) hab).trans k3,(hb.cell (p:=⟨a.block,a.off+4,none⟩) hab).trans k4⟩
   have hn1:0<n1:=by rw[←h1];exact hf1
   have hn1':(0:Int)<(n1:Int):=by omega
   clear hc hF hf1 hf8 hfs h1 s1 hcl l1 m1;generalize mainB x=mb at*;generalize f.args.length=u0 at*;generalize f.locs.length=u1 at*;generalize f.code.length=u2 at*;generalize f.ret.1=k1 at*;generalize f.ret.2=k2 at*;rcases Nat.eq_zero_or_pos u0 with hu|hu
   · subst hu
     go_enter Tryz.func23,Tryz.ntmps23
     go_wp2_with (first
      |(go_at_call 22
        refine(TE2.out _ (HB0.out _)).mono ?_;rintro e w1 ⟨rfl,hb1⟩;refine jR ?_;intro HB1 x0 x1 x2 x3 x4;obtain⟨y0,y1,y2,y3,y4⟩:=HCL.out _ HB1.out;clear hb1))
     go_ret;exact⟨by rw[HN.out];simp;rfl,HB1.out.alloc HB1.out.size _⟩
   · have hd:((u0:Int)==0)=false:=by simp;omega
     have hd2:(u0==0)=false:=by simp;omega
     go_enter Tryz.func23,Tryz.ntmps23
     go_wp2_with (first
      |(go_at_call 22
        refine(TE2.out _ (HB0.out _)).mono ?_;rintro e w1 ⟨rfl,hb1⟩;refine jR ?_;intro HB1 x0 x1 x2 x3 x4;obtain⟨y0,y1,y2,y3,y4⟩:=HCL.out _ HB1.out;clear hb1))
     go_ret;exact⟨by rw[HN.out,decide_eq_false (show ¬u0=0 by omega)];rfl,HB1.out.alloc HB1.out.size _⟩
theorem Owns.push {w':World} {v':Value} {css:List (List Value)} {cs:List Value} {x:α} (hl:css.length=xs.length)
 (hR:∀(j:Nat) (x:α) (cs:List Value),xs[j]? =some x→css[j]? =some cs→L.R (fun b=>base≤b∧b<w.heap.size∧v.ownBlock≠some b) w cs x)
 (hx:L.R (fun b=>base≤b∧b<w.heap.size∧v.ownBlock≠some b) w cs x) (hown:w'.ownsRow base ty L.k v' (xs.length+1) (css.flatten++cs)) (hg:w.grownBy w' v.ownBlock)
 (hv:v'.ownBlock=v.ownBlock∨v'.ownBlock=some w.heap.size):Owns L ty base w' v' (xs++[x]):=by
 have hk:∀{cs:List Value} {x:α},L.R (fun b=>base≤b∧b<w.heap.size∧v.ownBlock≠some b) w cs x→L.R (fun b=>base≤b∧b<w'.heap.size∧v'.ownBlock≠some b) w' cs x:=fun h=>
  L.wide (L.keep h fun b hb=>hg.block b hb.2.1 (fun e=>hb.2.2 e.symm)) fun b hb=>⟨hb.1,qAh hb.2.1 hg.size,by
   rcases hv with e|e
   · rw[e];exact hb.2.2
   · rw[e];intro e2;injection e2 with e2;omega⟩
 refine⟨css++[cs],by simp[hl],by simpa using hown,fun j y ds h1 h2=> ?_⟩;rcases Nat.lt_or_ge j xs.length with hj|hj
 · rw[List.getElem?_append_left hj] at h1
   rw[List.getElem?_append_left (by omega)] at h2;exact hk (hR j y ds h1 h2)
 · rw[List.getElem?_append_right hj] at h1
   rw[List.getElem?_append_right (by omega),hl] at h2;have e0:j-xs.length=0:=by
    rcases Nat.eq_zero_or_pos (j-xs.length) with h|h
    · exact h
    · rw[List.getElem?_eq_none qK] at h1
      cases h1
   rw[e0] at h1 h2;simp at h1 h2;subst h1 h2;exact hk hx
theorem qDk (L:Lay α) (w:World) {ops:Array Oper} {rest:List Oper} {o:Oper} {a:Act} {Q:Exit→Act→World→Prop} (hgd:o.guard=none) (s x:Operand) (T E:TypeId)
 (ho:o.op= .call {callee:= .builtin .append,args:= #[s,x],argTypes:= #[T,T]})
 (z:Value) (B:Nat) (hT:Tryz.prog.underlying T=some (.slice E)) (hI:(Tryz.prog.info? E).map (fun i=>(i.zero,i.size,i.bytes))=some (some z,L.k,B)) (hz:z.cells.size=L.k) (hk:0<L.k) (hB:B≤100)
 (base:Nat) (v:Value) (xs:List α) (hs:a.eval s=v) (hO:Owns L E base w v xs) (ad:Addr) (d:Nat) (hx:a.eval x= .slice (some ad) 1 d) (cs:List Value) (y:α)
 (hc:∀j u,cs[j]? =some u→w.cell? (ad.add j)=some u) (hR:L.R (fun b=>base≤b∧b<w.heap.size∧v.ownBlock≠some b) w cs y) (hbig:xs.length≤1000000) (hbase:base≤w.heap.size)
 (h:∀v' w',Owns L E base w' v' (xs++[y])→w.grownBy w' v.ownBlock→wpList Tryz.prog ops Q rest (a.put o.dst v') w'):wpList Tryz.prog ops Q (o::rest) a w:=by
 refine wpList_plain hgd fun _ hK=> ?_;obtain⟨i0,hi0,hz0,hz1,hz2⟩:=info_parts hI;obtain⟨css,hl,hown,hRs⟩:=hO;have hBx:(xs.length+1)*B≤140737488355328:=by
  have:=Nat.mul_le_mul (show xs.length+1≤1000001 by omega) hB
  omega
 obtain⟨v',w',hrun,h2,h3,_,h5⟩:=run_append_own_at (P:=Tryz.prog) w base T o.type E i0 z L.k B hT hi0 hz0 hz1 hz2 hz hk v xs.length css.flatten hown ad 1 d cs (by rw[L.len hR,Nat.one_mul]) hc (L.one hR)
  zh hBx hbase
 unfold Oper.wp execOp;simp only[ho,resolve,invoke,builtin,Sem.run_bind,Sem.run_pure,Result.andThen_ok,List.map_toArray,List.map_cons,List.map_nil,hs,hx,hrun];exact hK _ _ (h v' w' (Owns.push hl hRs hR h2 h3 h5) h3)
theorem qDb (L:Lay α) (w:World) {ops:Array Oper} {rest:List Oper} {o:Oper} {a:Act} {Q:Exit→Act→World→Prop} (hgd:o.guard=none) (s x:Operand) (T E:TypeId)
 (ho:o.op= .call {callee:= .builtin .append,args:= #[s,x],argTypes:= #[T,T]})
 (z:Value) (B:Nat) (hT:Tryz.prog.underlying T=some (.slice E)) (hI:(Tryz.prog.info? E).map (fun i=>(i.zero,i.size,i.bytes))=some (some z,L.k,B)) (hz:z.cells.size=L.k) (hk:0<L.k) (hB:B≤100)
 (base:Nat) (v:Value) (xs:List α) (hs:a.eval s=v) (hO:Owns L E base w v xs) (ad:Addr) (d:Nat) (hx:a.eval x= .slice (some ad) 1 d) (cs:List Value) (y:α)
 (hc:∀j u,cs[j]? =some u→w.cell? (ad.add j)=some u) (hR:L.R (fun b=>base≤b∧b<w.heap.size∧v.ownBlock≠some b) w cs y) (hbig:xs.length≤1000000) (hbase:base≤w.heap.size)
 (h:∀v' w',Owns L E base w' v' (xs++[y])→w.grownBy w' v.ownBlock→(v'.ownBlock=v.ownBlock∨v'.ownBlock=some w.heap.size)→wpList Tryz.prog ops Q rest (a.put o.dst v') w'):wpList Tryz.prog ops Q (o::rest) a w:=by
 refine wpList_plain hgd fun _ hK=> ?_;obtain⟨i0,hi0,hz0,hz1,hz2⟩:=info_parts hI;obtain⟨css,hl,hown,hRs⟩:=hO;have hBx:(xs.length+1)*B≤140737488355328:=by
  have:=Nat.mul_le_mul (show xs.length+1≤1000001 by omega) hB
  omega
 obtain⟨v',w',hrun,h2,h3,_,h5⟩:=run_append_own_at (P:=Tryz.prog) w base T o.type E i0 z L.k B hT hi0 hz0 hz1 hz2 hz hk v xs.length css.flatten hown ad 1 d cs (by rw[L.len hR,Nat.one_mul]) hc (L.one hR)
  zh hBx hbase
 unfold Oper.wp execOp;simp only[ho,resolve,invoke,builtin,Sem.run_bind,Sem.run_pure,Result.andThen_ok,List.map_toArray,List.map_cons,List.map_nil,hs,hx,hrun];exact hK _ _ (h v' w' (Owns.push hl hRs hR h2 h3 h5) h3 h5)
theorem Owns.turn {L':Lay α} (h:Owns L ty base w v xs) (hk:L'.k=L.k) (hR:∀cs x,x∈xs→L.R (fun b=>base≤b∧b<w.heap.size∧v.ownBlock≠some b) w cs x→L'.R (fun b=>base≤b∧b<w.heap.size∧v.ownBlock≠some b) w cs x):Owns L' ty base w v xs:=by
 obtain⟨css,hl,hown,hr⟩:=h;exact⟨css,hl,by rw[hk];exact hown,fun j x cs h1 h2=>hR cs x (qAl h1) (hr j x cs h1 h2)⟩
theorem Owns.below {w':World} (h:Owns L ty base w v xs) (hb:Below w.heap.size w w'):Owns L ty base w' v xs:=by
 obtain⟨css,hl,hown,hR⟩:=h;exact⟨css,hl,qC7 hown hb (qAi _),fun j x cs h1 h2=>L.wide (L.keep (hR j x cs h1 h2) fun b hb2=>hb.block b hb2.2.1) fun b hb2=>⟨hb2.1,qAh hb2.2.1 hb.size,hb2.2.2⟩⟩
end Go.Proofs.YtelceoecekfamaaGreat
