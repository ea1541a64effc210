/-
Vbe Vgw Vgo Vsh Vck
-/
import Derived.Test.YtgdbhanhmenmfaaGreatQ01
import Derived.Test.YtgdbhanhmenmfaaGreatQ03
import Derived.Test.YtgdbhanhmenmfaaGreatQ09
import Derived.Test.YtgdbhanhmenmfaaGreatQ10
import Derived.Test.YtgdbhanhmenmfaaGreatQ31
import Derived.Test.YtgdbhanhmenmfaaGreatQ33
import Derived.Test.YtgdbhanhmenmfaaGreatQ34
set_option linter.unusedSimpArgs false
set_option linter.unusedVariables false
set_option maxRecDepth 100000
set_option maxHeartbeats 4000000
namespace Go.Proofs.YtgdbhanhmenmfaaGreat
open Go.RowKit
variable {fn:Fn}{k:Nat}{l:List Shape}{m:Mod}{s:List Typ}{ws:List Bool}
theorem made_Bl (n:Nat):(madeCells #[.bool false] n).toList=Bl (List.replicate n false):=by
 rw[toList_madeCells_one];simp[Bl]
theorem qMU:(Tryz.prog.info? 4).map (fun i=>(i.zero,i.size,i.bytes))=some (some (.bool false),1,1):=by kernel_rfl
theorem qGI (n:Nat) (hn:n≤1000) (w:World):(Instr.makeSlice 184 (.int .i64 (n:Nat)) (.int .i64 (n:Nat))).run Tryz.prog w= .ok (.slice (some ⟨w.heap.size,0,none⟩) n n) (w.alloc (.cells (madeCells #[.bool false] n) 4)):=by
 obtain⟨i,hi,hz,hs,hb⟩:=info_parts qMU;have:=run_make (P:=Tryz.prog) w 184 4 i _ Tryz.underlying184 hi hz .i64 .i64 (n:Int) (n:Int) (by omega) (Int.le_refl _) (by rw[hb];omega) (by omega);rw[hs,Int.toNat_natCast,Nat.mul_one] at this;exact this
theorem qHx {w W:World} {n g p q:Nat} (hn:n≤1000) (hg:w.heap.size≤g) (hp:w.heap.size≤p) (hq:w.heap.size≤q) (hgp:g≠p) (hgq:g≠q) (hpq:p≠q)
 (hP:Blk W p 94 (madeCells #[.bool false,.slice none 0 0] (n*2))) (hQ:Blk W q 4 (madeCells #[.bool false] n)) (hG:Blk W g 186 #[.slice (some ⟨p,0,none⟩) n n,.slice (some ⟨q,0,none⟩) n n]):
 Wk w.heap.size g p q (fun b=>if b=g then some 0 else if b=p then some 1 else if b=q then some 2 else none) W (List.replicate n (false,[])) (List.replicate n false) (List.replicate n (false,.slice none 0 0)):=by
 have hnm:n≤maxLen:=by unfold maxLen;omega
 refine⟨by simp,by simp[hgp.symm],by simp[hgq.symm,hpq.symm],fun b hb=> ?_,by simpa using hG,?_,?_,fun k x hx=> ?_⟩
 · by_cases e1:b=g
   · subst e1;exact⟨hg,hG.lt⟩
   by_cases e2:b=p
   · subst e2;exact⟨hp,hP.lt⟩
   by_cases e3:b=q
   · subst e3;exact⟨hq,hQ.lt⟩
   simp[e1,e2,e3] at hb
 · rw[List.length_replicate]
   refine⟨by rw[qDg,List.length_replicate],.inr ⟨p,n,_,rfl,hp,hP,qBL _,hnm,size_madeCells _ _,?_⟩⟩;rw[made_C2,qBS (by rw[qDg,List.length_replicate];exact qBL _)]
 · rw[List.length_replicate]
   refine⟨by rw[qEy,List.length_replicate,Nat.mul_one],.inr ⟨q,n,_,rfl,hq,hQ,qBL _,hnm,by rw[size_madeCells,Nat.mul_one],?_⟩⟩;rw[made_Bl,qBS (by rw[qEy,List.length_replicate,Nat.mul_one];exact qBL _)]
 · have hk:=(qBM.1 hx).1
   rw[List.length_replicate] at hk;rw[List.getElem?_replicate,if_pos hk] at hx;injection hx with hx;subst hx;exact⟨.slice none 0 0,by rw[List.getElem?_replicate,if_pos hk],.inl ⟨rfl,none,0,rfl,by simp[maxLen],fun _=>rfl⟩,fun h=>absurd h (by simp)⟩
theorem qMZ (n:Nat) (h0:0<n) (hn:n≤64) (w:World):
 Calls Tryz.prog 107 #[.int .i64 (n:Nat)] w fun e w'=>Below w.heap.size w w'∧∃g p q Z r,e= .returned (.pointer (some ⟨g,0,none⟩))∧Wk w.heap.size g p q Z w' (beginF n) ((List.replicate n false).set 0 true) r:=by
 have M1:=qHL n (by omega);have M2:=qGI n (by omega)
 go_enter Tryz.func107,Tryz.ntmps107
 go_wp2_with fail
 go_region
 all_goals
  go_upto_region 2 with(fail)
  refine qBV fun W hW=> ?_;have HBW:Hid (Below w.heap.size w W):=by
   show Below _ _ _
   rw[hW];exact(((qBe w _).alloc (by simp) _).alloc zA _).drew
  have hWk:∃p q Z,(w.heap.size≤p)∧Wk w.heap.size (w.heap.size+1+1) p q Z W (List.replicate n (false,[])) (List.replicate n false) (List.replicate n (false,.slice none 0 0)):=by
   first
   |exact⟨w.heap.size,w.heap.size+1,_,qBL _,qHx (by omega) (by omega) (by omega) (by omega) (by omega) (by omega) (by omega) (by rw[hW];exact qEw (qBc (qBc (qBl rfl)))) (by rw[hW];exact qEw (qBc (qBl (by simp)))) (by rw[hW];exact qEw (qBl (by simp)))⟩
   |exact⟨w.heap.size+1,w.heap.size,_,by omega,qHx (by omega) (by omega) (by omega) (by omega) (by omega) (by omega) (by omega) (by rw[hW];exact qEw (qBc (qBl (by simp)))) (by rw[hW];exact qEw (qBc (qBc (qBl rfl)))) (by rw[hW];exact qEw (qBl (by simp)))⟩
  clear hW;obtain⟨p,q,Z,-,hWk⟩:=hWk;have HW:=qBK hWk;have HL:=qBK hWk.low0;have RE:Hid (Calls Tryz.prog 162 #[.pointer (some ⟨w.heap.size+1+1,0,none⟩),.int .i64 ((0:Nat):Int),.slice none 0 0] W (Reached w.heap.size (w.heap.size+1+1) p q Z W (List.replicate n (false,[])) (List.replicate n false) 0 [])):=
   qGc _ _ p q Z W _ _ _ 0 none 0 0 [] hWk HBW.out.size (by simpa using h0) qK rfl (by omega) (Sq.nil _ _ _ _)
  clear hWk
  go_wp2_with fail
  refine RE.out.mono ?_;rintro e w6 ⟨hT6,⟨rfl,u,hu,hne⟩|⟨rfl,Z6,r6,l6,ws6,hW6,hz6,hrch⟩⟩
  · rw[List.getElem?_replicate,if_pos h0] at hu
    cases hu
  · have HT6:=qBK hT6
    have HW6:=qBK hW6;have HR6:=qBK hrch;clear hT6 hW6 hz6 hrch
    go_wp2_with fail
    go_ret;have hB:=HBW.out.trans (HT6.out.below HBW.out.size HL.out);refine⟨hB,_,p,q,Z6,r6,rfl,?_⟩;obtain⟨s,_,rfl,rfl⟩|⟨u,hu,-⟩:=HR6.out
    · exact HW6.out
    · rw[List.getElem?_replicate,if_pos h0] at hu
      cases hu
def cnt:List Bool→Nat
 |[]=>0
 |b::l=>(if b then 1 else 0)+cnt l
theorem cnt_le (l:List Bool):cnt l≤l.length:=by
 induction l with
 |nil=>simp[cnt]
 |cons b l ih=>cases b<;>simp[cnt]<;>omega
theorem qMJ {l:List Bool} (h:l[k]? =some true):cnt (l.set k false)+1=cnt l:=by
 induction l generalizing k with
 |nil=>simp at h
 |cons b l ih=>
  cases k with
  |zero=>simp at h;subst h;simp[cnt];omega
  |succ k=>
   have:=ih qy;simp only[List.set_cons_succ,cnt]
   omega
def todo (l:List Shape) (ws:List Bool):Nat:=rkS (toS l) l.length*(l.length+1)+cnt ws
theorem qGW {l':List Shape} {ws':List Bool} (hl:l'.length=l.length) (hw:ws'.length=l.length) (h:rkS (toS l') l.length<rkS (toS l) l.length):todo l' ws'<todo l ws:=by
 unfold todo;rw[hl];have h1:=cnt_le ws';have h2:=Nat.mul_le_mul_right (l.length+1) (show rkS (toS l') l.length+1≤rkS (toS l) l.length from h);rw[Nat.add_mul] at h2
 omega
def Inv (m:Mod) (fn:Fn) (l:List Shape) (ws:List Bool):Prop:=(∀p:Nat,ws[p]? =some false→okAt m fn (toS l) p)∧(∀(p:Nat) (s:List Typ),l[p]? =some (false,s)→s=[])∧∀p:Nat,ws[p]? =some true→∃s,l[p]? =some (true,s)
theorem qNk (S:Shp):leS S S:=fun p=>qFu _
theorem qGq {S T U:Shp} (h:leS S T) (h':leS T U):leS S U:=fun p=>qD9 (h p) (h' p)
theorem qK2 {S:Shp} (h:leO (S k) (some s)):leS S (putS S k s):=fun p=>by
 by_cases e:p=k
 · rw[e,qCu];exact h
 · rw[qCm e];exact qFu _
structure Leads (m:Mod) (fn:Fn) (l:List Shape) (ws:List Bool) (t:List Typ) (done:List Int) (l':List Shape) (ws':List Bool):Prop where
 runF:RunF m fn l'
 lenw:ws'.length=l.length
 grow:leS (toS l) (toS l')
 still:∀p:Nat,ws'[p]? =some false→ws[p]? =some false∧l'[p]? =l[p]?
 led:∀k∈done,leO (some t) (toS l' k.toNat)
 out:∀(p:Nat) (s:List Typ),l'[p]? =some (false,s)→s=[]
 seen:∀p:Nat,ws'[p]? =some true→∃s,l'[p]? =some (true,s)
 less:todo l' ws'≤todo l ws
theorem Leads.begin (t:List Typ) (h:RunF m fn l) (hw:ws.length=l.length) (ho:∀(p:Nat) (s:List Typ),l[p]? =some (false,s)→s=[]) (hs:∀p:Nat,ws[p]? =some true→∃s,l[p]? =some (true,s)):Leads m fn l ws t [] l ws:=
 ⟨h,hw,qNk _,fun p hp=>⟨hp,rfl⟩,fun k hk=>(by simp at hk),ho,hs,qBL _⟩
theorem Leads.step {l1 l2:List Shape} {w1 w2:List Bool} {t:List Typ} {done ks:List Int} {pc:Nat} {i:Ins} (h:Leads m fn l ws t done l1 w1) (hl:l.length=fn.code.length) (hr:Rch l1 w1 k t l2 w2) (hu:Und m fn pc s) (hi:fn.code[pc]? =some i) (hf:insB8 m fn i pc s=(0,t,ks)) (hk:(k:Int)∈ks) (hc:canL t) (h8:t.length≤8) (hlt:k<fn.code.length):Leads m fn l ws t (done++[(k:Int)]) l2 w2:=by
 have hll:l1.length=l.length:=by rw[h.runF.len,hl]
 have hlk:k<l1.length:=by rw[h.runF.len];exact hlt
 rcases hr with⟨s0,hx,rfl,rfl⟩|⟨u,hx,hn,rfl,hw⟩
 · have hg:leS (toS l1) (toS (l1.set k (true,t))):=by
    rw[qCc hlk];exact qK2 fun z hz=>by rw[qEK hx] at hz;cases hz
   refine⟨⟨by simpa using h.runF.len,by rw[qCc hlk];exact qKp h.runF.run hu hi hf hk (qEK hx) hc h8 hlt⟩,by simpa using h.lenw,qGq h.grow hg,fun p hp=> ?_,fun j hj=> ?_,fun p s hp=> ?_,fun p hp=> ?_,?_⟩
   · exact zW
   · rcases List.mem_append.1 hj with hj|hj
     · exact qD9 (h.led j hj) (hg _)
     · simp only[List.mem_singleton] at hj
       subst hj;rw[Int.toNat_natCast,qCc hlk,qCu];exact qFu _
   · by_cases e:k=p
     · subst e
       rw[List.getElem?_set_self hlk] at hp
       cases hp
     · rw[List.getElem?_set_ne e] at hp
       exact h.out p s hp
   · by_cases e:k=p
     · subst e
       exact⟨t,List.getElem?_set_self hlk⟩
     · rw[List.getElem?_set_ne e] at hp⊢
       exact h.seen p hp
   · refine qBZ (Nat.le_of_lt (qGW (by simp) (by rw[List.length_set,h.lenw,hll]) ?_)) h.less
     rw[qCc hlk];exact rkS_new hlk (qEK hx) h8
 · have hcu:=(h.runF.run.can k u (qBx hx)).1
   have hg:leS (toS l1) (toS (l1.set k (true,joinL u t))):=by
    rw[qCc hlk];refine qK2 fun z hz=> ?_;rw[qBx hx] at hz;injection hz with hz;subst hz;exact⟨_,rfl,qJ3 hn⟩
   have hrun:RunF m fn (l1.set k (true,joinL u t)):=⟨by simpa using h.runF.len,by rw[qCc hlk];exact qIA h.runF.run hu hi hf hk (qBx hx) hn hc⟩;have hled:∀j∈done++[(k:Int)],leO (some t) (toS (l1.set k (true,joinL u t)) j.toNat):=fun j hj=>by
    rcases List.mem_append.1 hj with hj|hj
    · exact qD9 (h.led j hj) (hg _)
    · simp only[List.mem_singleton] at hj
      subst hj;rw[Int.toNat_natCast,qCc hlk,qCu];intro z hz;injection hz with hz;subst hz;exact⟨_,rfl,qIl hn⟩
   have hout:∀(p:Nat) (s:List Typ),(l1.set k (true,joinL u t))[p]? =some (false,s)→s=[]:=fun p s hp=>by
    by_cases e:k=p
    · subst e
      rw[List.getElem?_set_self hlk] at hp
      cases hp
    · rw[List.getElem?_set_ne e] at hp
      exact h.out p s hp
   rcases hw with⟨he,rfl⟩|⟨hne,rfl⟩
   · have hs:l1.set k (true,joinL u t)=l1:=by rw[he];exact qFc hx
     rw[hs] at hrun hled hout⊢;exact⟨hrun,h.lenw,h.grow,h.still,hled,hout,h.seen,h.less⟩
   · refine⟨hrun,by simpa using h.lenw,qGq h.grow hg,fun p hp=> ?_,hled,hout,fun p hp=> ?_,?_⟩
     · exact zW
     · by_cases e:k=p
       · subst e
         exact⟨_,List.getElem?_set_self hlk⟩
       · rw[List.getElem?_set_ne e] at hp⊢
         exact h.seen p hp
     · refine qBZ (Nat.le_of_lt (qGW (by simp) (by rw[List.length_set,h.lenw,hll]) ?_)) h.less
       rw[qCc hlk];exact qM6 hlk (qBx hx) hcu hc hn hne
theorem Leads.ends {l':List Shape} {ws':List Bool} {t:List Typ} {ks:List Int} {pc:Nat} {i:Ins} (h:Leads m fn l (ws.set pc false) t ks l' ws') (hI:Inv m fn l ws) (hx:l[pc]? =some (true,s)) (hw:ws[pc]? =some true) (hi:fn.code[pc]? =some i) (hf:insB8 m fn i pc s=(0,t,ks)):Inv m fn l' ws'∧todo l' ws'<todo l ws:=by
 have hc:=qMJ hw;refine⟨⟨fun p hp=> ?_,h.out,h.seen⟩,Nat.lt_of_le_of_lt h.less (by unfold todo;omega)⟩;obtain⟨h1,h2⟩:=h.still p hp
 by_cases e:pc=p
 · subst e
   intro z hz;rw[hx] at h2;rw[qBx h2] at hz;injection hz with hz;subst hz;exact⟨i,t,ks,hi,hf,h.led⟩
 · rw[List.getElem?_set_ne e] at h1
   intro z hz;have h3:toS l p=some z:=by unfold toS at hz ⊢;rwa [h2] at hz
   obtain⟨i',t',ks',q1,q2,q3⟩:=hI.1 p h1 z h3;exact⟨i',t',ks',q1,q2,fun k hk=>qD9 (q3 k hk) (h.grow _)⟩
def WentOn (n0 g p q:Nat) (Z:Nat→Option Nat) (x:Mod) (fn:Fn) (l:List Shape) (ws:List Bool) (w:World) (e:Ending) (w':World):Prop:=
 Turn Z w w'∧((e= .returned (.bool false)∧Never x fn)∨(e= .returned (.bool true)∧∃Z' r' l' ws',Wk n0 g p q Z' w' l' ws' r'∧(∀b,b<w.heap.size→Z' b=Z b)∧RunF x fn l'∧Inv x fn l' ws'∧todo l' ws'<todo l ws))
def Led (n0 g p q:Nat) (Z:Nat→Option Nat) (x:Mod) (fn:Fn) (l:List Shape) (ws:List Bool) (t:List Typ) (ks:List Int) (w5:World) (m:Nat) (wr:World):Prop:=
 Turn Z w5 wr∧∃Zr rr lr wsr,Wk n0 g p q Zr wr lr wsr rr∧(∀b,b<w5.heap.size→Zr b=Z b)∧Leads x fn l ws t (ks.take m) lr wsr
theorem qOH (n0 g p q:Nat) (Z:Nat→Option Nat) (w:World) (l:List Shape) (ws:List Bool) (r:List (Bool×Value)) (cs:List Value) (x:Mod) (j pc:Nat) (fn:Fn) (s:List Typ) (h:Wk n0 g p q Z w l ws r) (hn0:n0≤w.heap.size) (hm:modL.R (·<n0) w cs x) (hc:checkN x=0) (hfn:x.funcs[j]? =some fn) (hR:RunF x fn l) (hx:l[pc]? =some (true,s)) (hw:ws[pc]? =some true) (hI:Inv x fn l ws):
 Calls Tryz.prog 108 #[.pointer (some ⟨g,0,none⟩),vAgg cs,.int .i64 (j:Nat),.int .i64 (pc:Nat)] w (WentOn n0 g p q Z x fn l ws w):=by
 have hmem:=qBQ hfn;obtain⟨-,-,hcode,-⟩:=qCl hc hmem;have hpl:=(qBM.1 hx).1;obtain⟨i,hi⟩:∃i,fn.code[pc]? =some i:=⟨fn.code[pc]'(by rw[←hR.len];exact hpl),List.getElem?_eq_getElem _⟩;have hu:=hR.run.und (qBx hx);obtain⟨hcan,hs8⟩:=hR.run.can pc s (qBx hx);have hfl:flowB x (j:Int) (pc:Int) s=insB8 x fn i pc s:=qF3 hc hfn hi;obtain⟨A,cA,hr,hc0,hc1,hst,hle,hcm,hnil⟩:=h.cells hx;simp only at hr hc1 hst hle;have hj8:j<9:=by have:=(qBw.1 (qBo hc)).f8;have:=(qBM.1 hfn).1;omega
 have hpc2:pc<1000000:=by rw[hR.len] at hpl;omega
 obtain⟨n,hn⟩:∃n,l.length=n:=⟨_,rfl⟩;obtain⟨er,t,ks,hfe⟩:∃er t ks,insB8 x fn i pc s=(er,t,ks):=⟨_,_,_,rfl⟩;obtain⟨nk,hnk⟩:∃nk,ks.length=nk:=⟨_,rfl⟩;obtain⟨nt,hnt⟩:∃nt,t.length=nt:=⟨_,rfl⟩;have hcm2:cA≤9223372036854775807:=by unfold maxLen at hcm;omega
 have hlow:=h.low0;have FA:Hid (∀v,Below n0 w v→Sq typL (·<v.heap.size) v A s→Calls Tryz.prog 151 #[vAgg cs,.int .i64 (j:Int),.int .i64 (pc:Int),.slice A s.length cA] v (Flows (er,t,ks) v)):=fun v hb hs=>by
  have hm2:modL.R (·<v.heap.size) v cs x:=modL.wide (modL.keep hm fun b h1=>hb.block b h1) fun b h1=>qBN h1 (qBZ hn0 hb.size);have:=qI4 cs x (j:Int) (pc:Int) A s.length cA s v hm2 ⟨by omega,by omega⟩ ⟨by omega,by omega⟩ rfl hs (by omega) hle hcm2 hnil
  rwa [hfl,hfe] at this
 have HSt:Hid (∀v W,Below W.heap.size W v→Stk n0 W (.slice A s.length cA) s→Sq typL (·<v.heap.size) v A s):=fun v W hb hs=>(hs.sq.keep fun b h1=>hb.block b h1.2).wide fun b h1=>qBN h1.2 hb.size;obtain⟨A0,A1,A2,A3,A4,n0',n1,n2,n3,n4,d0,d1,d2,d3,d4,rfl⟩:=qCj hm;have HW:=qBK h;have HX:=qBK hx;have HWt:=qBK hw;have HN:=qBK hn;have HR:=qBK hR;have HI:=qBK hI;have HU:=qBK hu;have HIn:=qBK hi;have HFE:=qBK hfe;have HC:=qBK hc;have HM:=qBK hmem;have HCan:=qBK hcan;have HRr:=qBK hr;have HLow:=qBK hlow;have HNK:=qBK hnk;have HNT:=qBK hnt;have hpn:(pc:Int)<(n:Int):=by omega
 have hp0:(0:Int)≤(pc:Int):=by omega
 have hn64:n≤64:=by rw[←hn,hR.len];exact hcode
 have hln:l.length=fn.code.length:=hR.len;have HLN:=qBK hln;obtain⟨ns,hns⟩:∃ns,s.length=ns:=⟨_,rfl⟩;rw[hns] at FA HSt HRr;have HNS:=qBK hns;clear h hx hw hn hR hI hu hi hfe hc hmem hcan hr hfl hc0 hc1 hst hm hlow hfn hcode hpl hnk hnt hln hns;simp only[vAgg] at FA⊢
 go_enter Tryz.func108,Tryz.ntmps108
 go_upto_region 1 with(fail)
 refine qBV fun W1 hW1=> ?_;have HB1:Hid (Below w.heap.size w W1):=by show Below _ _ _;rw[hW1];exact qBe w _
 have HBx:Hid (Blk W1 w.heap.size 28 #[.slice A0 n0' d0,.slice A1 n1 d1,.slice A2 n2 d2,.slice A3 n3 d3,.slice A4 n4 d4]):=by show Blk _ _ _ _;rw[hW1];exact qBl rfl
 have hW1w:=HW.out.below HB1.out;have hs1:w.heap.size<W1.heap.size:=by rw[hW1];simp
 clear hW1;have g1:=hW1w.box.cell 1;rw[HN.out] at g1;have g1:W1.cell? ⟨g,1,none⟩=some (.slice (some ⟨q,0,none⟩) n n):=g1;have g2:=(hW1w.wai.cellAt pc (by rw[HN.out];omega)).trans (qHr HWt.out);have g3:=hW1w.wai.frozenAt pc;have HW1:=qBK hW1w;clear hW1w
 go_upto_region 2 with(fail)
 refine qBV fun W2 hW2=> ?_;have HW2:Hid (Wk n0 g p q Z W2 l (ws.set pc false) r):=by show Wk _ _ _ _ _ _ _ _ _;rw[hW2];exact HW1.out.wait pc false
 have HT2:Hid (Turn Z w W2):=by show Turn _ _ _;rw[hW2];exact(Turn.of_below HB1.out).set (by rw[HW.out.zq];simp) _
 have HB2:Hid (Blk W2 w.heap.size 28 #[.slice A0 n0' d0,.slice A1 n1 d1,.slice A2 n2 d2,.slice A3 n3 d3,.slice A4 n4 d4]):=by show Blk _ _ _ _;rw[hW2];exact qG6 HBx.out (by have:=(HW.out.low q (by rw[HW.out.zq];simp)).2;omega)
 have hs2:w.heap.size<W2.heap.size:=by rw[hW2];simpa[World.setCell] using hs1
 clear hW2 g1 g2 g3;have HCV:Hid (∀v,Below W2.heap.size W2 v→v.cell? ⟨w.heap.size,0,none⟩=some (.slice A0 n0' d0)∧v.cell? ⟨w.heap.size,1,none⟩=some (.slice A1 n1 d1)∧v.cell? ⟨w.heap.size,2,none⟩=some (.slice A2 n2 d2)∧v.cell? ⟨w.heap.size,3,none⟩=some (.slice A3 n3 d3)∧v.cell? ⟨w.heap.size,4,none⟩=some (.slice A4 n4 d4)∧v.cell? ⟨g,0,none⟩=some (.slice (some ⟨p,0,none⟩) n n)∧v.cell? ⟨p,pc*2+1,none⟩=some (.slice A ns cA)):=fun v hb=>by
  have hf:=qBf HB2.out hb hs2;have hv:=HW2.out.below hb;have k0:=hv.box.cell 0;rw[HN.out] at k0;obtain⟨A',c',e1,-,h2,-⟩:=hv.cells HX.out;rw[HRr.out] at e1;simp only[Option.some.injEq,Prod.mk.injEq,true_and,Value.slice.injEq] at e1;obtain⟨rfl,-,rfl⟩:=e1;simp only[HNS.out] at h2;exact⟨hf.cell 0,hf.cell 1,hf.cell 2,hf.cell 3,hf.cell 4,k0,h2⟩
 have hstk:Stk n0 W2 (.slice A ns cA) s:=by
  obtain⟨v,h1,h2,-⟩:=HW2.out.stk pc _ HX.out;rw[HRr.out] at h1;simp only[Option.some.injEq,Prod.mk.injEq,true_and] at h1;rw[h1];exact h2
 have FA2:Hid (∀v,Below W2.heap.size W2 v→Calls Tryz.prog 151 #[.agg #[.slice A0 n0' d0,.slice A1 n1 d1,.slice A2 n2 d2,.slice A3 n3 d3,.slice A4 n4 d4],.int .i64 (j:Int),.int .i64 (pc:Int),.slice A ns cA] v (Flows (er,t,ks) v)):=fun v hb=>FA.out v ((HT2.out.then hb).below hn0 HLow.out) (HSt.out v W2 hb hstk);have SW:=qBK (HCV.out W2 (qBO _ _));clear FA HSt hstk
 go_region_held3 (fun v=>v.cell? ⟨w.heap.size,0,none⟩=some (.slice A0 n0' d0)∧v.cell? ⟨w.heap.size,1,none⟩=some (.slice A1 n1 d1)∧v.cell? ⟨w.heap.size,2,none⟩=some (.slice A2 n2 d2)∧v.cell? ⟨w.heap.size,3,none⟩=some (.slice A3 n3 d3)∧v.cell? ⟨w.heap.size,4,none⟩=some (.slice A4 n4 d4)∧v.cell? ⟨g,0,none⟩=some (.slice (some ⟨p,0,none⟩) n n)∧v.cell? ⟨p,pc*2+1,none⟩=some (.slice A ns cA))
  (first|exact SS5.out|exact SW.out|exact HCV.out _ (qBO _ W2).drew)
  (first
  |(go_at_call 151
    refine(FA2.out _ (qBO _ W2).drew).mono ?_;intro e w5 hq;obtain⟨hb5,v5,u5,rfl,ho5,hu5,h64⟩:=qEQ hq;have HB5:Hid (Below W2.heap.size W2 w5):=(by show Below _ _ _;exact(qBO _ W2).drew.trans (hb5.mono (by simp)));have SS5:=qBK (HCV.out _ HB5.out);obtain⟨A5,c5,rfl,-,hle5,-,hsq5⟩:=qFk ho5 h64;obtain⟨B5,d5,rfl,-,-,hnu5⟩:=qEW hu5;have HSQ5:=qBK hsq5;have HNU5:=qBK hnu5;clear hb5 ho5 hu5 h64 hsq5 hnu5 hq))
 have HT5:Hid (Turn Z w w5):=HT2.out.then HB5.out;have hs5:w.heap.size<w5.heap.size:=qBN hs2 HB5.out.size
 by_cases he:er=0
 rotate_left
 · have hne:(er != 0)=true:=by simpa using he
   go_wp2_with fail
   go_ret;exact⟨HT5.out,.inl ⟨rfl,qGa HU.out HIn.out (by rw[HFE.out];exact he)⟩⟩
 subst he;obtain⟨hct,h8t⟩:=qI3 HC.out HM.out HCan.out HFE.out;have HTh:=qBK (qER HC.out HM.out HIn.out HFE.out);have HCt:=qBK hct;have HZn:Hid (∀b,W2.heap.size≤b→Z b=none):=fun b hb=>by
  cases e:Z b with
  |none=>rfl
  |some k=>exact absurd (HW.out.low b (by rw[e];simp)).2 (by omega)
 have hwl:(ws.set pc false).length=l.length:=by rw[List.length_set];exact HW.out.lenw
 have HL0:Hid (Led n0 g p q Z x fn l (ws.set pc false) t ks w5 0 w5):=⟨Turn.refl _ _,Z,r,l,ws.set pc false,HW2.out.below HB5.out,fun _ _=>rfl,Leads.begin t HR.out hwl HI.out.2.1 fun p hp=>by
  by_cases e:pc=p
  · subst e;exact⟨s,HX.out⟩
  · rw[List.getElem?_set_ne e] at hp;exact HI.out.2.2 p hp⟩
 rw[HNK.out,HNT.out];rw[HNT.out] at hle5 h8t;have hk64:nk≤2:=by
  rw[←HNK.out];exact qIY HFE.out
 clear hct hwl SS5 SW
 go_wp2_with fail
 go_loopw [40] (fun i wr=>∃m:Nat,m≤nk∧i= .int .i64 (m:Nat)∧Led n0 g p q Z x fn l (ws.set pc false) t ks w5 m wr) (fun i _=>nk-(intOf i).toNat)
 case atStart=>exact⟨0,qBU _,rfl,HL0.out⟩
 case round=>
  obtain⟨m,hm,rfl,hT,Zr,rr,lr,wsr,hWr,hzr,hLd⟩:=hrel;have HT:=qBK hT;have HWr:=qBK hWr;have HZr:=qBK hzr;have HLd:=qBK hLd;clear hT hWr hzr hLd HL0
  by_cases hlt:m<nk
  · obtain⟨k,hk⟩:∃k,ks[m]? =some k:=⟨ks[m]'(by rw[HNK.out];exact hlt),List.getElem?_eq_getElem _⟩
    have hkm:=qBQ hk;obtain⟨hk0,hkl⟩:=HTh.out k hkm;obtain⟨kn,rfl⟩:∃kn:Nat,k=(kn:Int):=⟨k.toNat,by omega⟩;rw[Int.toNat_natCast] at hkl;obtain⟨aB,rfl,hB1,hB2,hB3⟩:=HNU5.out m _ hk;have hcell:=(qBd (HT.out.block (aB.add m).block (by rw[qBn];exact hB2) (HZn.out _ (by rw[qBn];simpa using hB1)))).trans hB3;have HKM:=qBK hkm;have HTk:Hid (ks.take (m+1)=ks.take m++[(kn:Int)]):=by
     show _=_
     obtain⟨h1,h2⟩:=qBM.1 hk;rw[qBW h1,h2]
    have hsr:=HT.out.size;have RE:Hid (Calls Tryz.prog 162 #[.pointer (some ⟨g,0,none⟩),.int .i64 (kn:Nat),.slice A5 nt c5] wr (Reached n0 g p q Zr wr lr wsr kn t)):=
     qGc n0 g p q Zr wr lr wsr rr kn A5 nt c5 t HWr.out (by omega) (by rw[HLd.out.runF.len];exact hkl) (by rw[HLd.out.runF.len,←HLN.out,HN.out];omega) HNT.out h8t
      ((HSQ5.out.keep fun b h1=>HT.out.block b h1.2 (HZn.out b (by simpa using h1.1))).wide fun b h1=>⟨qBN h1.2 hsr,by rw[HZr.out b h1.2];exact HZn.out b (by simpa using h1.1)⟩)
    have hkl2:kn<64:=by rw[←HLN.out,HN.out] at hkl;omega
    have hm0:(0:Int)≤(m:Int):=by omega
    have hm1:(m:Int)<(nk:Int):=by omega
    clear hk hkm hB1 hB2 hB3 hk0
    go_wp2_with fail
    refine RE.out.mono ?_;rintro e w6 ⟨hT6,⟨rfl,u,hu,hne⟩|⟨rfl,Z6,r6,l6,ws6,hW6,hz6,hrch⟩⟩
    · have HT6:=qBK hT6
      have HNev:=qBK (qE6 HLd.out.runF.run HU.out HIn.out HFE.out HKM.out (qBx hu) hne);clear hT6 hu hne
      go_wp2_with fail
      go_ret;exact⟨HT5.out.trans (HT.out.trans HT6.out fun b h1 h2=>by rw[HZr.out b h1];exact h2) fun _ _ h=>h,.inl ⟨rfl,HNev.out⟩⟩
    · have HT6:=qBK hT6
      have HW6:=qBK hW6;have HZ6:=qBK hz6;have HRch:=qBK hrch;clear hT6 hW6 hz6 hrch
      go_wp2_with fail
      refine⟨⟨m+1,by omega,by simp,HT.out.trans HT6.out fun b h1 h2=>by rw[HZr.out b h1];exact h2,Z6,r6,l6,ws6,HW6.out,fun b hb=>(HZ6.out b (qBN hb hsr)).trans (HZr.out b hb),?_⟩,by simp[intOf];omega⟩;rw[HTk.out];exact HLd.out.step HLN.out HRch.out HU.out HIn.out HFE.out HKM.out HCt.out (by rw[HNT.out];exact h8t) hkl
  · obtain rfl:m=nk:=by omega
    go_wp2_with fail
    go_ret;have hL:=HLd.out;rw[qBS (by rw[HNK.out];exact qBL _)] at hL;obtain⟨h1,h2⟩:=hL.ends HI.out HX.out HWt.out HIn.out HFE.out;exact⟨HT5.out.trans HT.out fun _ _ h=>h,.inr ⟨rfl,Zr,rr,lr,wsr,HWr.out,fun b hb=>HZr.out b (by omega),hL.runF,h1,h2⟩⟩
def Shaped (x:Mod) (fn:Fn) (w:World) (e:Ending) (w':World):Prop:=
 Below w.heap.size w w'∧((∃U l v,e= .returned (.tuple #[v,.int .i64 0,.bool true])∧Least x fn l∧(∀b,U b→w.heap.size≤b∧b<w'.heap.size)∧(rowU U).R (fun b=>w.heap.size≤b∧b<w'.heap.size) w' [v] l)∨
  (∃pc:Nat,pc<fn.code.length∧e= .returned (.tuple #[.slice none 0 0,.int .i64 (pc:Int),.bool false])∧Never x fn))
def AtLabel (x:Mod) (fn:Fn) (W:World) (A0 A1 A2 A3 A4:Option Addr) (n0 n1 n2 n3 n4 d0 d1 d2 d3 d4 j B:Nat) (n:Nat) (a':Act) (w':World):Prop:=
 Below W.heap.size W w'∧∃g p q Z r l ws,Wk W.heap.size g p q Z w' l ws r∧RunF x fn l∧Inv x fn l ws∧n=todo l ws∧
  ∃u3 u4 u5 u6 u8 u9 u10 u11 u12 u13 u14 u15 u16 u17 u18 u19 u20 u21 u22 u23 u24 u25 u26 u27 u28 u29 u30 u31 u32 u33 u34 u35 u36 u37 u38 u39 u40 u41:Value,a'={tmps:= #[.agg #[.slice A0 n0 d0,.slice A1 n1 d1,.slice A2 n2 d2,.slice A3 n3 d3,.slice A4 n4 d4],.int .i64 (j:Int),.pointer (some ⟨B,0,none⟩),u3,u4,u5,u6,.pointer (some ⟨g,0,none⟩),u8,u9,u10,u11,u12,u13,u14,u15,u16,u17,u18,u19,u20,u21,u22,u23,u24,u25,u26,u27,u28,u29,u30,u31,u32,u33,u34,u35,u36,u37,u38,u39,u40,u41],defers:=[]}
theorem qJg (cs:List Value) (x:Mod) (j:Nat) (fn:Fn) (w:World) (hm:modL.R (·<w.heap.size) w cs x) (hc:checkN x=0) (hfn:x.funcs[j]? =some fn):
 Calls Tryz.prog 59 #[vAgg cs,.int .i64 (j:Nat)] w (Shaped x fn w):=by
 have HM:=qBK hm;have hmem:=qBQ hfn;obtain⟨-,-,hcode,-⟩:=qCl hc hmem;have hcode0:0<fn.code.length:=by
  have:=(qBw.1 (qBo hc)).funcs fn hmem;simp only[fnOk,Bool.and_eq_true,qB0] at this
  omega
 obtain⟨_,_,_,_,_,rfl,⟨A0,d0,e0,-⟩,⟨A1,d1,e1,l1,m1,s1⟩,⟨A2,d2,e2,-⟩,⟨A3,d3,e3,-⟩,⟨A4,d4,e4,-⟩⟩:=hm;simp only[List.cons.injEq,and_true] at e0 e1 e2 e3 e4;subst e0 e1 e2 e3 e4;have hj8:j<x.funcs.length:=(qBM.1 hfn).1;refine jR ?_;intro n0 h0 n1 h1 n2 h2;refine qAc ?_;intro n3 h3 n4 h4;rw[h0,h1,h2,h3,h4] at HM⊢;rw[h1] at hj8;obtain⟨a,ccs,ea,hab,hcl,hR⟩:=s1.at hfn;subst ea;obtain⟨p0,p1,p2,rfl,-,-,⟨P0,c0,e4,-⟩,⟨P1,c1,e5,-⟩,⟨P2,c2,e6,-⟩⟩:=hR;simp only[List.cons.injEq,and_true] at e4 e5 e6;subst e4 e5 e6;obtain⟨uc,g2⟩:∃n,fn.code.length=n:=⟨_,rfl⟩;rw[g2] at hcl hcode hcode0;have HCL:Hid (∀v,Below w.heap.size w v→v.cell? ⟨(a.add (j*5)).block,(a.add (j*5)).off+4,none⟩=some (.slice P2 uc c2)):=fun v hb=>by
  have k4:=(hb.cell (p:=a.add (j*5+4)) qD).trans (hcl 4 _ rfl);rw[qBT a (j*5) 4 (by omega)] at k4;exact k4
 have BE:=qBK (qMZ uc hcode0 hcode);have HG2:=qBK g2;have HC:=qBK hc;have HF:=qBK hfn;have hj0:(0:Int)≤(j:Int):=by omega
 have hj1:(j:Int)<(n1:Int):=by omega
 clear hmem s1 hcl h0 h1 h2 h3 h4 g2 hc hfn l1 m1
 show Calls Tryz.prog 59 #[.agg #[.slice A0 n0 d0,.slice (some a) n1 d1,.slice A2 n2 d2,.slice A3 n3 d3,.slice A4 n4 d4],.int .i64 (j:Int)] w (Shaped x fn w)
 go_enter Tryz.func59,Tryz.ntmps59
 go_wp2_with fail
 refine qBV fun W hW=> ?_;have HBW:Hid (Below w.heap.size w W):=by show Below _ _ _;rw[hW];exact qBe w _
 have HBx:Hid (Blk W w.heap.size 28 #[.slice A0 n0 d0,.slice (some a) n1 d1,.slice A2 n2 d2,.slice A3 n3 d3,.slice A4 n4 d4]):=by show Blk _ _ _ _;rw[hW];exact qBl rfl
 have hsW:w.heap.size<W.heap.size:=by rw[hW];simp
 clear hW;have HBV:Hid (∀v,Below W.heap.size W v→v.cell? ⟨w.heap.size,0,none⟩=some (.slice A0 n0 d0)∧v.cell? ⟨w.heap.size,1,none⟩=some (.slice (some a) n1 d1)∧v.cell? ⟨w.heap.size,2,none⟩=some (.slice A2 n2 d2)∧v.cell? ⟨w.heap.size,3,none⟩=some (.slice A3 n3 d3)∧v.cell? ⟨w.heap.size,4,none⟩=some (.slice A4 n4 d4)):=fun v hb=>by
  have hf:=qBf HBx.out hb hsW;exact⟨hf.cell 0,hf.cell 1,hf.cell 2,hf.cell 3,hf.cell 4⟩
 have HMV:Hid (∀v,Below W.heap.size W v→modL.R (·<W.heap.size) v [.slice A0 n0 d0,.slice (some a) n1 d1,.slice A2 n2 d2,.slice A3 n3 d3,.slice A4 n4 d4] x):=fun v hb=>modL.wide (modL.keep HM.out fun b h1=>(HBW.out.trans (hb.mono HBW.out.size)).block b h1) fun b h1=>Nat.lt_trans h1 hsW;refine qFR (AtLabel x fn W A0 (some a) A2 A3 A4 n0 n1 n2 n3 n4 d0 d1 d2 d3 d4 j w.heap.size) rfl ?_ ?_
 · obtain⟨-,z1,-,-,-⟩:=HBV.out W (qBO _ _)
   have z2:=HCL.out W HBW.out
   go_wp2_with fail
   refine(BE.out W).mono ?_;rintro e V ⟨hbV,g,p,q,Z,r,rfl,hWk⟩;have HBV2:=qBK hbV;have HWk:=qBK hWk;clear hbV hWk
   go_wp2_with fail
   refine⟨todo _ _,HBV2.out,g,p,q,Z,r,_,_,HWk.out,?_,⟨fun k hk=> ?_,fun k s hk=> ?_,fun k hk=> ?_⟩,rfl,_,_,_,_,_,_,_,_,_,_,_,_,_,_,_,_,_,_,_,_,_,_,_,_,_,_,_,_,_,_,_,_,_,_,_,_,_,_,rfl⟩
   · have:=qGD (m:=x) (fn:=fn) (by rw[HG2.out];exact hcode0)
     rwa [HG2.out] at this
   · intro s hs
     have hs:=qDJ hs
     by_cases e:0=k
     · subst e
       rw[List.getElem?_set_self (by simpa using hcode0)] at hk
       cases hk
     · unfold beginF at hs
       rw[List.getElem?_set_ne e,List.getElem?_replicate] at hs;split at hs<;>cases hs
   · by_cases e:0=k
     · subst e
       unfold beginF at hk;rw[List.getElem?_set_self (by simpa using hcode0)] at hk
       cases hk
     · unfold beginF at hk
       rw[List.getElem?_set_ne e,List.getElem?_replicate] at hk;split at hk
       · injection hk with hk;injection hk with _ hk;exact hk.symm
       · cases hk
   · by_cases e:0=k
     · subst e
       exact⟨[],by unfold beginF;rw[List.getElem?_set_self (by simpa using hcode0)]⟩
     · rw[List.getElem?_set_ne e,List.getElem?_replicate] at hk
       split at hk<;>cases hk
 · rintro n a' V ⟨hbV,g,p,q,Z,r,l,ws,hWk,hRun,hInv,rfl,u3,u4,u5,u6,u8,u9,u10,u11,u12,u13,u14,u15,u16,u17,u18,u19,u20,u21,u22,u23,u24,u25,u26,u27,u28,u29,u30,u31,u32,u33,u34,u35,u36,u37,u38,u39,u40,u41,rfl⟩
   obtain⟨nl,hnl⟩:∃nl,l.length=nl:=⟨_,rfl⟩;have g0:=hWk.box.cell 0;have g1:=hWk.box.cell 1;rw[hnl] at g0 g1;have g0:V.cell? ⟨g,0,none⟩=some (.slice (some ⟨p,0,none⟩) nl nl):=g0;have g1:V.cell? ⟨g,1,none⟩=some (.slice (some ⟨q,0,none⟩) nl nl):=g1;have HBV3:=qBK hbV;have HW:=qBK hWk;have HR:=qBK hRun;have HI:=qBK hInv;have HNL:=qBK hnl;have hl64:nl≤64:=by rw[←hnl,hRun.len,HG2.out];exact hcode
   have HWL:Hid (ws.length=nl):=by show _=_;rw[hWk.lenw];exact hnl
   clear hWk hRun hInv hnl hbV
   go_wp2_with fail
   go_loopw [23] (fun i wr=>∃k:Nat,k≤nl∧i= .int .i64 (k:Nat)∧(∀m,m<k→ws[m]? =some false)∧wr=V) (fun i _=>nl-(intOf i).toNat)
   case atStart=>exact⟨0,qBU _,rfl,fun m hm=>absurd hm (by omega),rfl⟩
   case round=>
    obtain⟨k,hk,rfl,hall,rfl⟩:=hrel;have HA:=qBK hall;clear hall
    by_cases hlt:k<nl
    · obtain⟨b,hb⟩:∃b,ws[k]? =some b:=⟨ws[k]'(by rw[HWL.out];exact hlt),List.getElem?_eq_getElem _⟩
      have hcell:=(HW.out.wai.cellAt k (by rw[HNL.out];omega)).trans (qHr hb);have HB:=qBK hb;have k0:(0:Int)≤(k:Int):=by omega
      have k1:(k:Int)<(nl:Int):=by omega
      clear hb
      cases b
      · go_wp2_with fail
        refine⟨⟨k+1,by omega,by simp,fun m hm=> ?_,trivial⟩,by simp[intOf];omega⟩
        by_cases e:m=k
        · rw[e];exact HB.out
        · exact HA.out m (by omega)
      · obtain⟨s,hs⟩:=HI.out.2.2 k HB.out
        obtain⟨y0,y1,y2,y3,y4⟩:=HBV.out _ HBV3.out;have GO:=qBK (qOH W.heap.size g p q Z _ l ws r _ x j k fn s HW.out HBV3.out.size (HMV.out _ HBV3.out) HC.out HF.out HR.out hs HB.out HI.out);have hlow:=qBK HW.out.low0;clear hs;simp only[vAgg] at GO
        go_wp2_with fail
        refine GO.out.mono ?_;rintro e w6 ⟨hT6,⟨rfl,hne⟩|⟨rfl,Z6,r6,l6,ws6,hW6,hz6,hR6,hI6,hless⟩⟩
        · have HT6:=qBK (hT6.below HBV3.out.size hlow.out)
          have HNe:=qBK hne;clear hT6 hne
          go_wp2_with fail
          simp only[Exit.jump]
          go_ret3
          exact⟨HBW.out.trans ((HBV3.out.trans HT6.out).mono HBW.out.size),.inr ⟨k,by rw[←HR.out.len,HNL.out];exact hlt,rfl,HNe.out⟩⟩
        · have HT6:=qBK (hT6.below HBV3.out.size hlow.out)
          have HW6:=qBK hW6;have HR6:=qBK hR6;have HI6:=qBK hI6;have HL6:=qBK hless;clear hT6 hW6 hz6 hR6 hI6 hless
          go_wp2_with fail
          go_step3
          exact⟨rfl,todo l6 ws6,HL6.out,HBV3.out.trans HT6.out,g,p,q,Z6,r6,l6,ws6,HW6.out,HR6.out,HI6.out,rfl,_,_,_,_,_,_,_,_,_,_,_,_,_,_,_,_,_,_,_,_,_,_,_,_,_,_,_,_,_,_,_,_,_,_,_,_,_,_,rfl⟩
    · obtain rfl:k=nl:=by omega
      go_wp2_with fail
      simp only[Exit.jump]
      go_ret3
      have hle:Least x fn l:=⟨HR.out.len,HI.out.2.1,HR.out.run,fun p hp=>HI.out.1 p (HA.out p (by rw[←HR.out.len,HNL.out] at hp;exact hp))⟩;refine⟨HBW.out.trans (HBV3.out.mono HBW.out.size),.inl ⟨fun b=>∃k,Z b=some (k+3),l,_,rfl,hle,fun b hb=> ?_,?_⟩⟩
      · obtain⟨i,hi⟩:=hb
        have:=HW.out.low b (by rw[hi];simp)
        omega
      · have:=HW.out.done
        rw[HNL.out] at this;exact(rowU _).wide this fun b hb=>by omega
def Checked (x:Mod) (w:World) (e:Ending) (w':World):Prop:=
 Below w.heap.size w w'∧((checkN x≠0∧e= .returned (.tuple #[.slice none 0 0,.int .i64 0,.int .i64 0,.int .i64 (checkN x)]))∨
  (checkN x=0∧mainB x=false∧e= .returned (.tuple #[.slice none 0 0,.int .i64 0,.int .i64 0,.int .i64 1]))∨
  (checkN x=0∧mainB x=true∧NeverM x∧∃(f pc:Nat) (fn:Fn),x.funcs[f]? =some fn∧pc<fn.code.length∧e= .returned (.tuple #[.slice none 0 0,.int .i64 (f:Int),.int .i64 (pc:Int),.int .i64 4]))∨
  (checkN x=0∧mainB x=true∧∃U L A c,LeastM x L∧e= .returned (.tuple #[.slice A L.length c,.int .i64 0,.int .i64 0,.int .i64 0])∧(slL (rowU U)).R (fun b=>w.heap.size≤b∧b<w'.heap.size) w' [.slice A L.length c] L∧(∀a,A=some a→¬U a.block)∧∀b,U b→w.heap.size≤b))
def UptoF (x:Mod) (W:World) (k:Nat) (v:Value) (wr:World):Prop:=
 Below W.heap.size W wr∧∃U L,Owns (rowU U) 92 W.heap.size wr v L∧L.length=k∧(∀(j:Nat) (fn:Fn) (l:List Shape),x.funcs[j]? =some fn→L[j]? =some l→Least x fn l)∧(∀b,U b→W.heap.size≤b∧b<wr.heap.size)∧∀b,v.ownBlock=some b→¬U b
theorem UptoF.zero (x:Mod) (W:World):UptoF x W 0 (.slice none 0 0) W:=⟨qBO _ _,fun _=>False,[],Owns.nil _ _ _ _,rfl,fun j fn l _ h=>by simp at h,fun b h=>h.elim,fun b h=>by cases h⟩
theorem qM3:(Tryz.prog.info? 92).map (fun i=>(i.zero,i.size,i.bytes))=some (some (.slice none 0 0),1,24):=by kernel_rfl
theorem qCs {fn:Func} {t u v s:Tmp} (h:fn.results= #[.tmp t,.tmp u,.tmp v,.tmp s]) (tmps:Array Value) (P:Program) (w:World):
 (results fn tmps).run P w= .ok (.tuple #[tmps.getD t undef,tmps.getD u undef,tmps.getD v undef,tmps.getD s undef]) w:=by
 simp[results,h]
theorem qJf {x:Mod} {w w':World} {e:Ending} (h:Shaped x fn w e w'):Below w.heap.size w w'∧((∃U l A c,e= .returned (.tuple #[.slice A l.length c,.int .i64 0,.bool true])∧Least x fn l∧(∀b,U b→w.heap.size≤b∧b<w'.heap.size)∧(rowU U).R (fun b=>w.heap.size≤b∧b<w'.heap.size) w' [.slice A l.length c] l)∨
 (∃pc:Nat,pc<fn.code.length∧e= .returned (.tuple #[.slice none 0 0,.int .i64 (pc:Int),.bool false])∧Never x fn)):=by
 obtain⟨hb,⟨U,l,v,rfl,hl,hu,hr⟩|h⟩:=h
 · have hr2:=hr
   obtain⟨A,c,e,-⟩:=hr2;simp only[List.cons.injEq,and_true] at e;subst e;exact⟨hb,.inl ⟨U,l,A,c,rfl,hl,hu,hr⟩⟩
 · exact⟨hb,.inr h⟩
theorem UptoF.step {x:Mod} {W wr w6:World} {v:Value} {U U6:Nat→Prop} {L:List (List Shape)} {A:Option Addr} {c:Nat} (hO:Owns (rowU U) 92 W.heap.size wr v L) (hb:Below W.heap.size W wr) (hlen:L.length=k) (hle:∀(j:Nat) (fn:Fn) (l:List Shape),x.funcs[j]? =some fn→L[j]? =some l→Least x fn l) (hU:∀b,U b→W.heap.size≤b∧b<wr.heap.size) (hv:∀b,v.ownBlock=some b→¬U b) (hc:checkN x=0)
 (hf:x.funcs[k]? =some fn) (hl:Least x fn l) (h6:Below wr.heap.size wr w6) (hU6:∀b,U6 b→wr.heap.size≤b∧b<w6.heap.size) (hR:(rowU U6).R (fun b=>wr.heap.size≤b∧b<w6.heap.size) w6 [.slice A l.length c] l):
 Owns (rowU fun b=>U b∨U6 b) 92 W.heap.size (w6.alloc (.cells #[.slice A l.length c] 92)) v L∧(rowU fun b=>U b∨U6 b).R (fun b=>W.heap.size≤b∧b<(w6.alloc (.cells #[.slice A l.length c] 92)).heap.size∧v.ownBlock≠some b) (w6.alloc (.cells #[.slice A l.length c] 92)) [.slice A l.length c] l∧
  ∀v' w7,Owns (rowU fun b=>U b∨U6 b) 92 W.heap.size w7 v' (L++[l])→(w6.alloc (.cells #[.slice A l.length c] 92)).grownBy w7 v.ownBlock→(v'.ownBlock=v.ownBlock∨v'.ownBlock=some (w6.heap.size+1))→UptoF x W (k+1) v' w7:=by
 have hs:=hb.size;have hs6:=h6.size;have hpos:∀{fn:Fn} {l:List Shape},fn∈x.funcs→Least x fn l→0<l.length:=fun hm hl=>by
  have:=(qBw.1 (qBo hc)).funcs _ hm;simp only[fnOk,Bool.and_eq_true,qB0] at this;rw[hl.len]
  omega
 have hpL:∀y∈L,0<y.length:=fun y hy=>by
  obtain⟨j,hj⟩:=qBk.1 hy;have hjl:=(qBM.1 hj).1;have hkl:=(qBM.1 hf).1;have hfj:x.funcs[j]? =some (x.funcs[j]'(by omega)):=List.getElem?_eq_getElem _;exact hpos (List.getElem_mem _) (hle j _ y hfj hj)
 have hal:Below w6.heap.size w6 (w6.alloc (.cells #[.slice A l.length c] 92)):=qBe _ _;refine⟨?_,?_,fun v' w7 hO7 hg hv'=>⟨?_,_,_,hO7,by simp[hlen],fun j fn' l' hf' hl'=> ?_,fun b hu=> ?_,fun b hb7 hu=> ?_⟩⟩
 · refine((Owns.turn (L':=rowU fun b=>U b∨U6 b) hO rfl fun cs y hy hr=>qIE (U':=fun b=>U b∨U6 b) hr (fun b hb2=>⟨fun h=> .inl h,fun h=> ?_⟩) (hpL y hy)).below h6).below hal
   rcases h with h|h
   · exact h
   · have:=hU6 b h;omega
 · refine(rowU _).wide ((rowU _).keep (qIE (U':=fun b=>U b∨U6 b) hR (fun b hb2=>⟨fun h=> .inr h,fun h=> ?_⟩) (hpos (qBQ hf) hl)) fun b hb2=>hal.block b hb2.2) fun b hb2=>⟨by omega,by simp;omega,fun e=>by have:=hO.lt b e;omega⟩
   rcases h with h|h
   · have:=hU b h;omega
   · exact h
 · refine hb.trans ((h6.trans (hal.mono hs6)).mono hs |>.trans ?_)
   exact qDy (by exact hg) qK fun i hi=>(hO.lt i hi).1
 · rcases Nat.lt_or_ge j L.length with hj|hj
   · rw[List.getElem?_append_left hj] at hl'
     exact hle j fn' l' hf' hl'
   · rw[List.getElem?_append_right hj] at hl'
     have e0:j-L.length=0:=by
      rcases Nat.eq_zero_or_pos (j-L.length) with h|h
      · exact h
      · rw[List.getElem?_eq_none qK] at hl'
        cases hl'
     rw[e0] at hl';simp at hl';subst hl';obtain rfl:j=k:=by omega
     rw[hf] at hf';injection hf' with hf';subst hf';exact hl
 · have:=hg.size
   simp at this;rcases hu with h|h
   · have:=hU b h;omega
   · have:=hU6 b h;omega
 · rcases hv' with e|e
   · rw[e] at hb7
     rcases hu with h|h
     · exact hv b hb7 h
     · have:=hU6 b h
       have:=hO.lt b hb7
       omega
   · rw[e] at hb7
     injection hb7 with hb7;rcases hu with h|h
     · have:=hU b h;omega
     · have:=hU6 b h;omega
theorem qJT (cs:List Value) (x:Mod) (w:World) (h:modL.R (·<w.heap.size) w cs x):Calls Tryz.prog 25 #[vAgg cs] w (Checked x w):=by
 refine jb ?_;intro TE;have TM:Hid (∀w1,Below w.heap.size w w1→Calls Tryz.prog 58 #[vAgg cs] w1 (Tells (mainB x) w1)):=fun w1 hb=>qIe cs x w1 (qCA h hb);have TS:Hid (∀(w1:World) (j:Nat) (fn:Fn),Below w.heap.size w w1→checkN x=0→x.funcs[j]? =some fn→Calls Tryz.prog 59 #[vAgg cs,.int .i64 (j:Nat)] w1 (Shaped x fn w1)):=fun w1 j fn hb hc hf=>qJg cs x j fn w1 (qCA h hb) hc hf;obtain⟨n1,h1⟩:∃n,x.funcs.length=n:=⟨_,rfl⟩;have HN1:=qBK h1;obtain⟨_,_,_,_,_,rfl,⟨A0,d0,e0,-⟩,⟨A1,d1,e1,-⟩,⟨A2,d2,e2,-⟩,⟨A3,d3,e3,-⟩,⟨A4,d4,e4,-⟩⟩:=h;simp only[List.cons.injEq,and_true] at e0 e1 e2 e3 e4;subst e0 e1 e2 e3 e4;rw[h1] at TE TM TS⊢;generalize x.recs.length=n0 at*;generalize x.imps.length=n2 at*;generalize x.ints.length=n3 at*;generalize x.texts.length=n4 at*;simp only[vAgg] at TE TM TS⊢;clear h1
 go_enter Tryz.func25,Tryz.ntmps25
 go_upto_region 1 with(fail)
 refine qBV fun W hW=> ?_;refine qAO ?_;intro HBW HBx hsW;clear hW;have HBV:Hid (∀v,Below W.heap.size W v→C5 w.heap.size (.slice A0 n0 d0) (.slice A1 n1 d1) (.slice A2 n2 d2) (.slice A3 n3 d3) (.slice A4 n4 d4) v):=fun v hb=>by
  have hf:=qBf HBx.out hb hsW;exact⟨hf.cell 0,hf.cell 1,hf.cell 2,hf.cell 3,hf.cell 4⟩
 obtain⟨z0,z1,z2,z3,z4⟩:=HBV.out W (qBO _ _)
 by_cases hc:checkN x=0
 rotate_left
 · have hne:(checkN x != 0)=true:=by simpa using hc
   have HC:=qBK hc;obtain⟨cn,hcn⟩:∃cn,checkN x=cn:=⟨_,rfl⟩;rw[hcn] at TE hne;have HCN:=qBK hcn;clear hc hcn
   go_wp2_with (first
    |(go_at_call 57
      refine(TE.out _ HBW.out).mono ?_;rintro e w1 ⟨rfl,hb1⟩;have HB1:=qBK hb1;clear hb1))
   (try simp only[Exit.inBlock,Exit.then]);refine bodyPost_ret (qCs rfl _ _ _) rfl ?_
   exact⟨HBW.out.trans (HB1.out.mono HBW.out.size),.inl ⟨HC.out,by rw[HCN.out];rfl⟩⟩
 have HC:=qBK hc;rw[hc] at TE;have hn8:n1≤8:=by have:=(qBw.1 (qBo hc)).f8;rw[HN1.out] at this;omega
 clear hc
 cases hmn:mainB x
 · have HMn:=qBK hmn
   rw[hmn] at TM;clear hmn
   go_wp2_with (first
    |(go_at_call 57
      refine(TE.out _ HBW.out).mono ?_;rintro e w1 ⟨rfl,hb1⟩;have HB1:=qBK hb1;obtain⟨y0,y1,y2,y3,y4⟩:=HBV.out w1 hb1;clear hb1 z0 z1 z2 z3 z4)
    |(go_at_call 58
      refine(TM.out _ (HBW.out.trans (HB1.out.mono HBW.out.size))).mono ?_;rintro e w2 ⟨rfl,hb2⟩;refine jl ?_;intro HB2;clear hb2))
   (try simp only[Exit.inBlock,Exit.then]);refine bodyPost_ret (qCs rfl _ _ _) rfl ?_
   exact⟨HBW.out.trans (HB2.out.mono HBW.out.size),.inr (.inl ⟨HC.out,HMn.out,rfl⟩)⟩
 have HMn:=qBK hmn;rw[hmn] at TM;clear hmn
 go_wp2_with (first
  |(go_at_call 57
    refine(TE.out _ HBW.out).mono ?_;rintro e w1 ⟨rfl,hb1⟩;have HB1:=qBK hb1;obtain⟨y0,y1,y2,y3,y4⟩:=HBV.out w1 hb1;clear hb1 z0 z1 z2 z3 z4)
  |(go_at_call 58
    refine(TM.out _ (HBW.out.trans (HB1.out.mono HBW.out.size))).mono ?_;rintro e w2 ⟨rfl,hb2⟩;refine jl ?_;intro HB2;obtain⟨z0,z1,z2,z3,z4⟩:=HBV.out w2 HB2.out;clear hb2 y0 y1 y2 y3 y4))
 have HU0:Hid (UptoF x W 0 (.slice none 0 0) w2):=⟨HB2.out,fun _=>False,[],Owns.nil _ _ _ _,rfl,fun j fn l _ h=>(by simp at h),fun b h=>h.elim,fun b h=>(by cases h)⟩;clear TE TM HB1 HB2 z0 z1 z2 z3 z4
 go_loopw [2,21] (fun v i wr=>∃k:Nat,k≤n1∧i= .int .i64 (k:Nat)∧UptoF x W k v wr) (fun _ i _=>n1-(intOf i).toNat)
 case atStart=>exact⟨0,qBU _,rfl,HU0.out⟩
 case round=>
  obtain⟨k,hk,rfl,hbW,U,L,hO,hLk,hle,hU,hv⟩:=hrel;clear HU0;have HBk:=qBK hbW;have HO:=qBK hO;have HLk:=qBK hLk;have HLe:=qBK hle;have HU:=qBK hU;have HV:=qBK hv;clear hbW hO hLk hle hU hv
  by_cases hlt:k<n1
  · obtain⟨fn,hf⟩:∃fn,x.funcs[k]? =some fn:=⟨x.funcs[k]'(by rw[HN1.out];exact hlt),List.getElem?_eq_getElem _⟩
    have HF:=qBK hf;have hsk:=HBk.out.size;have SH:=qBK (TS.out _ k fn (HBW.out.trans (HBk.out.mono HBW.out.size)) HC.out hf);obtain⟨z0,z1,z2,z3,z4⟩:=HBV.out _ HBk.out;clear hf
    go_wp2_with fail
    refine SH.out.mono ?_;intro e w6 hsh;obtain⟨hb6,⟨U6,l,A6,c6,rfl,hl,hU6,hR6⟩|⟨pc,hpc,rfl,hne⟩⟩:=qJf hsh
    · have HB6:=qBK hb6
      have ST:=qBK (UptoF.step HO.out HBk.out HLk.out HLe.out HU.out HV.out HC.out HF.out hl hb6 hU6 hR6);have hs6:=hb6.size;clear hsh hb6 hl hU6 hR6
      go_wp2_with (first
       |(at_builtin
         refine qFI (rowU fun b=>U b∨U6 b) _ rfl (.tmp 35) (.tmp 37) 42 92 rfl (.slice none 0 0) 24 Tryz.underlying42 qM3 rfl Nat.one_pos qp W.heap.size u2 L rfl ST.out.1 ⟨w6.heap.size,0,none⟩ 1 rfl [.slice A6 l.length c6] l (qCg w6 92 [.slice A6 l.length c6]) ST.out.2.1 (by rw[HLk.out];omega) qK ?_;intro v2 w7 hown2 hg2 hv2;have HO2:=qBK (ST.out.2.2 v2 w7 hown2 hg2 (by simpa using hv2));clear hown2 hg2 hv2))
      exact⟨⟨k+1,by omega,by simp,HO2.out⟩,by simp[intOf];omega⟩
    · have HB6:=qBK hb6
      have HP6:=qBK hpc;have HNe:=qBK hne;clear hsh hb6 hpc hne
      go_wp2_with fail
      (try simp only[Exit.inBlock,Exit.then]);refine bodyPost_ret (qCs rfl _ _ _) rfl ?_
      exact⟨HBW.out.trans ((HBk.out.trans (HB6.out.mono hsk)).mono HBW.out.size),.inr (.inr (.inl ⟨HC.out,HMn.out,⟨fn,qBQ HF.out,HNe.out⟩,k,pc,fn,HF.out,HP6.out,rfl⟩))⟩
  · obtain rfl:k=n1:=by omega
    have hsl:=HO.out.slice;have hsl2:=hsl;obtain⟨A,c,e,-⟩:=hsl2;simp only[List.cons.injEq,and_true] at e;subst e;have HSl:=qBK hsl;clear hsl
    go_wp2_with fail
    (try simp only[Exit.inBlock,Exit.then]);refine bodyPost_ret (qCs rfl _ _ _) rfl ?_
    refine⟨HBW.out.trans (HBk.out.mono HBW.out.size),.inr (.inr (.inr ⟨HC.out,HMn.out,U,L,A,c,⟨by rw[HLk.out,HN1.out],HLe.out⟩,rfl,(slL (rowU U)).wide HSl.out fun b hb=>by omega,fun a ha=>HV.out a.block (by rw[ha];rfl),fun b hb=>by have:=HU.out b hb;omega⟩))⟩
end Go.Proofs.YtgdbhanhmenmfaaGreat
