/-
Vrm
-/
import Derived.Test.YtelceoecekfamaaGreatQ02
import Derived.Test.YtelceoecekfamaaGreatQ11
import Derived.Test.YtelceoecekfamaaGreatQ17
import Derived.Test.YtelceoecekfamaaGreatQ18
import Derived.Test.YtelceoecekfamaaGreatQ20
import Derived.Test.YtelceoecekfamaaGreatQ22
import Derived.Test.YtelceoecekfamaaGreatQ28
set_option linter.unusedSimpArgs false
set_option linter.unusedVariables false
set_option maxRecDepth 100000
set_option maxHeartbeats 8000000
namespace Go.Proofs.YtelceoecekfamaaGreat
open Go.RowKit
def RMaps (x:Mod) (w:World) (e:Ending) (w':World):Prop:=
 Below w.heap.size w w'∧((NeverM x∧e= .returned (.tuple #[.slice none 0 0,.bool false]))∨
  (∃L A c,LeastM x L∧e= .returned (.tuple #[.slice A L.length c,.bool true])∧mapsL.R (·<w'.heap.size) w' [.slice A L.length c] L))
def UptoG (x:Mod) (W:World) (k:Nat) (v:Value) (wr:World):Prop:=
 Below W.heap.size W wr∧∃L,Owns rowL 50 W.heap.size wr v L∧L.length=k∧∀(j:Nat) (fn:Fn) (l:List Shape),x.funcs[j]? =some fn→L[j]? =some l→Least x fn l
theorem qHj:(Tryz.prog.info? 50).map (fun i=>(i.zero,i.size,i.bytes))=some (some (.slice none 0 0),1,24):=by kernel_rfl
theorem qHe {x:Mod} {L:List (List Shape)} {k:Nat} {fn:Fn} {l:List Shape} (hlen:L.length=k) (hle:∀(j:Nat) (fn:Fn) (l:List Shape),x.funcs[j]? =some fn→L[j]? =some l→Least x fn l) (hf:x.funcs[k]? =some fn) (hl:Least x fn l):∀(j:Nat) (fn:Fn) (l':List Shape),x.funcs[j]? =some fn→(L++[l])[j]? =some l'→Least x fn l':=fun j fn' l' hf' hl'=>by
 rcases Nat.lt_or_ge j L.length with hj|hj
 · rw[List.getElem?_append_left hj] at hl'
   exact hle j fn' l' hf' hl'
 · exact qu
def Head (x:Mod) (fn:Fn) (wr:World) (p:Nat) (n:Nat) (s:Value×World):Prop:=
 ∃b l r,s.1= .bool b∧Below wr.heap.size wr s.2∧Rk wr.heap.size p s.2 l r∧RunF x fn l∧(∀(p:Nat) (s:List Typ),l[p]? =some (false,s)→s=[])∧(b=false→∀q,q<fn.code.length→okAt x fn (toS l) q)∧n=rkS (toS l) fn.code.length+(if b then 1 else 0)
theorem qHk (RU:RuleAny) (cs:List Value) (x:Mod) (w:World) (h:modL.R (·<w.heap.size) w cs x) (hc:checkN x=0):Calls Tryz.prog 9 #[vAgg cs] w (RMaps x w):=by
 have TF:Hid (∀(w1:World) (j p:Nat) (fn:Fn) (i:Ins) (D:Option Addr) (g:Nat) (ts:List Typ),Below w.heap.size w w1→x.funcs[j]? =some fn→fn.code[p]? =some i→Sq typL (·<w1.heap.size) w1 D ts→ts.length≤8→ts.length≤g→g≤maxLen→(D=none→g=0)→Calls Tryz.prog 17 #[vAgg cs,.int .i64 (j:Int),.int .i64 (p:Int),.slice D ts.length g] w1 (RFlows (insB8 x fn i p ts) w1)):=fun w1 j p fn i D g ts hb hf hi hs h8 hg hm hn=>by
  obtain⟨o,ia,ib⟩:=i;exact qI0 RU cs x j p D ts.length g ts w1 (qBS h hb) fn o ia ib hc hf hi rfl hs (by omega) hg (by unfold maxLen at hm;omega) hn
 obtain⟨n1,h1⟩:∃n,x.funcs.length=n:=⟨_,rfl⟩;have HN1:=qAg h1;have HC:=qAg hc;have hn8:n1≤8:=by have:=(qA1.1 (qAw hc)).f8;omega
 obtain⟨_,_,_,_,_,rfl,⟨A0,d0,e0,-⟩,⟨A1,d1,e1,l1,m1,s1⟩,⟨A2,d2,e2,-⟩,⟨A3,d3,e3,-⟩,⟨A4,d4,e4,-⟩⟩:=h;simp only[List.cons.injEq,and_true] at e0 e1 e2 e3 e4;subst e0 e1 e2 e3 e4;have HFn:Hid (∀(k:Nat) (fn:Fn),x.funcs[k]? =some fn→∃a P2 c2,A1=some a∧∀v,Below w.heap.size w v→v.cell? ⟨(a.add (k*5)).block,(a.add (k*5)).off+4,none⟩=some (.slice P2 fn.code.length c2)):=fun k fn hf=>by
  obtain⟨a,ccs,ea,hab,hcl,hR⟩:=s1.at hf;obtain⟨p0,p1,p2,rfl,-,-,⟨P0,c0,e4,-⟩,⟨P1,c1,e5,-⟩,⟨P2,c2,e6,-⟩⟩:=hR;simp only[List.cons.injEq,and_true] at e4 e5 e6;subst e4 e5 e6;refine⟨a,P2,c2,ea,fun v hb=> ?_⟩;have k4:=(hb.cell (p:=a.add (k*5+4)) qB).trans (hcl 4 _ rfl);rw[qAm a (k*5) 4 (by omega)] at k4;exact k4
 rw[h1] at TF⊢;generalize x.recs.length=n0 at*;generalize x.imps.length=n2 at*;generalize x.ints.length=n3 at*;generalize x.texts.length=n4 at*;simp only[vAgg] at TF⊢;clear h1 hc s1 l1 m1;have RJ:=qAg (fun(a b:Typ) (v:World)=>rjoin2 a.1 a.2 b.1 b.2 v);have TT:=qAg qE1
 go_enter Tryz.func9,Tryz.ntmps9
 go_upto_region 1 with(fail)
 refine qAs fun W hW=> ?_;refine jQ ?_;intro HBW HBx hsW;clear hW;have HBV:Hid (∀v,Below W.heap.size W v→v.cell? ⟨w.heap.size,0,none⟩=some (.slice A0 n0 d0)∧v.cell? ⟨w.heap.size,1,none⟩=some (.slice A1 n1 d1)∧v.cell? ⟨w.heap.size,2,none⟩=some (.slice A2 n2 d2)∧v.cell? ⟨w.heap.size,3,none⟩=some (.slice A3 n3 d3)∧v.cell? ⟨w.heap.size,4,none⟩=some (.slice A4 n4 d4)):=fun v hb=>by
  have hf:=qAx HBx.out hb hsW;exact⟨hf.cell 0,hf.cell 1,hf.cell 2,hf.cell 3,hf.cell 4⟩
 have HU0:Hid (UptoG x W 0 (.slice none 0 0) W):=⟨qAk _ _,[],Owns.nil _ _ _ _,rfl,fun j fn l _ h=>(by simp at h)⟩
 go_wp2_with fail
 go_loopw [4,5] (fun v i wr=>∃k:Nat,k≤n1∧i= .int .i64 (k:Nat)∧UptoG x W k v wr) (fun _ i _=>n1-(intOf i).toNat)
 case atStart=>exact⟨0,qAq _,rfl,HU0.out⟩
 case round=>
  obtain⟨wf,eW⟩:∃wf,wf=wr:=⟨_,rfl⟩;subst eW;obtain⟨k,hk,rfl,hbW,L,hO,hLk,hle⟩:=hrel;clear HU0;have HBk:=qAg hbW;have HO:=qAg hO;have HLk:=qAg hLk;have HLe:=qAg hle;have hskr:=hbW.size;obtain⟨z0,z1,z2,z3,z4⟩:=HBV.out _ hbW;clear hbW hO hLk hle
  by_cases hlt:k<n1
  · obtain⟨fn,hf⟩:∃fn,x.funcs[k]? =some fn:=⟨x.funcs[k]'(by rw[HN1.out];exact hlt),List.getElem?_eq_getElem _⟩
    have hmem:=qAl hf;obtain⟨-,-,hcode,-⟩:=qBR HC.out hmem;have hcode0:0<fn.code.length:=by
     have:=(qA1.1 (qAw HC.out)).funcs fn hmem;simp only[fnOk,Bool.and_eq_true,qBH] at this
     omega
    obtain⟨a,P2,c2,rfl,hcl⟩:=HFn.out k fn hf;have z5:=hcl _ (HBW.out.trans (HBk.out.mono HBW.out.size));have HF:=qAg hf;have HMem:=qAg hmem;obtain⟨uc,huc⟩:∃uc,fn.code.length=uc:=⟨_,rfl⟩;have HUC:=qAg huc;rw[huc] at z5 hcode hcode0;have M1:=qCt uc (by omega);have k0:(0:Int)≤(k:Int):=by omega
    have k1:(k:Int)<(n1:Int):=by omega
    have hw0:¬uc=0:=by omega
    clear hf hmem hcl huc
    go_upto_region 6 with(fail)
    refine qAs fun W1 hW1=> ?_;have HB1:Hid (Below wf.heap.size wf W1):=by show Below _ _ _;rw[hW1];exact qAo _ _
    have HR1:Hid (Rk wf.heap.size wf.heap.size W1 (List.replicate uc (false,[])) (List.replicate uc (false,.slice none 0 0))):=qIw (by omega) (qAi _) (by rw[hW1];exact qA9 rfl) (qHO uc);clear hW1 M1;have hrep:(List.replicate uc ((false,[]):Shape))[0]? =some (false,[]):=by rw[List.getElem?_replicate,if_pos hcode0]
    have x0:W1.cell? ⟨wf.heap.size,0,none⟩=some (.bool false):=by
     obtain⟨A',c',-,h0,-⟩:=HR1.out.cells hrep;simpa using h0
    have x1:=HR1.out.row.frozenAt 0
    go_upto_region 7 with(fail)
    refine qAs fun W2 hW2=> ?_;obtain⟨r2,hr2⟩:=HR1.out.mark hrep;rw[Nat.zero_mul,←hW2] at hr2;have HB2:Hid (Below wf.heap.size wf W2):=by show Below _ _ _;rw[hW2];exact HB1.out.setCell (p:=⟨wf.heap.size,0,none⟩) (qAi _) _
    have HH0:Hid (∃n,Head x fn wf wf.heap.size n (.bool true,W2)):=by
     refine⟨_,true,beginF uc,r2,rfl,HB2.out,hr2,?_,fun q s hq=> ?_,fun e=>(by cases e),rfl⟩
     · have:=qCq (m:=x) (fn:=fn) (by rw[HUC.out];exact hcode0)
       rwa [HUC.out] at this
     · unfold beginF at hq
       by_cases e:0=q
       · subst e
         rw[List.getElem?_set_self (by simpa using hcode0)] at hq
         cases hq
       · rw[List.getElem?_set_ne e,List.getElem?_replicate] at hq
         split at hq
         · injection hq with hq;injection hq with _ hq;exact hq.symm
         · cases hq
    obtain⟨f,hfr⟩:=rank_of (Head x fn wf wf.heap.size);have HFr:=qAg hfr;clear hW2 hr2 x0 x1 hrep hfr HR1 HB1
    go_wp2_with fail
    go_loopw [7] (fun b wq=>∃n,Head x fn wf wf.heap.size n (b,wq)) (fun b wq=>f (b,wq))
    case atStart=>exact HH0.out
    case round=>
     obtain⟨wq,eW⟩:∃wq,wq=wr:=⟨_,rfl⟩;subst eW;have hJ:=(HFr.out _ hrel).1;clear HH0 HB2;obtain⟨b,l,r,eb,hbq,hRk,hRun,hOut,hOk,hn⟩:=hJ;simp only at eb hbq hRk;subst eb;have HBq:=qAg hbq;have HRk:=qAg hRk;have HRun:=qAg hRun;have HOut:=qAg hOut;have HOk:=qAg hOk;have HNn:=qAg hn;have hll:l.length=uc:=by rw[hRun.len,HUC.out]
     have HLL:=qAg hll;have hsq:=hbq.size;clear hbq hRk hRun hOut hOk hn hll hrel
     cases b
     · have HLe1:Hid (Least x fn l):=⟨HRun.out.len,HOut.out,HRun.out.run,fun q hq=>HOk.out rfl q hq⟩
       have hdone:=HRk.out.done;rw[HLL.out] at hdone;have HD:=qAg hdone;clear hdone
       go_wp2_with (first
        |(at_builtin
          refine qDk rowL _ rfl (.tmp 129) (.tmp 131) 36 50 rfl (.slice none 0 0) 24 Tryz.underlying36 qHj rfl Nat.one_pos qr W.heap.size u4 L rfl ((HO.out.below HBq.out).below (qAo _ _)) ⟨wq.heap.size,0,none⟩ 1 rfl [.slice (some ⟨wf.heap.size,0,none⟩) uc uc] l (qF6 wq 50 [.slice (some ⟨wf.heap.size,0,none⟩) uc uc]) ?_ (by rw[HLk.out];omega) qK ?_
          · exact rowL.wide (rowL.keep HD.out fun b hb=>qBh _ _ _ hb.2) fun b hb=>⟨by omega,by simp;omega,fun e=>by have:=HO.out.lt b e;omega⟩
          intro v2 w7 hown2 hg2;have HO2:=qAg hown2;have HG2:=qAg hg2;clear hown2 hg2))
       refine⟨⟨k+1,by omega,by simp,?_,L++[l],HO2.out,by simp[HLk.out],qHe HLk.out HLe.out HF.out HLe1.out⟩,by simp[intOf];omega⟩;refine(HBk.out.trans ((HBq.out.trans ((qAo _ _).mono hsq)).mono hskr)).trans (qCT (by exact HG2.out) qK fun i hi=>(HO.out.lt i hi).1)
     · go_wp2_with fail
       go_loopw [7,8] (fun b i wp=>∃(pc:Nat) (bb:Bool) (lp:List Shape) (rp:List (Bool×Value)),pc≤uc∧i= .int .i64 (pc:Nat)∧b= .bool bb∧Below wf.heap.size wf wp∧Rk wf.heap.size wf.heap.size wp lp rp∧Rnd x fn l lp bb (∀q,q<pc→okAt x fn (toS l) q)) (fun _ i _=>uc-(intOf i).toNat)
       case atStart=>exact⟨0,false,l,r,qAq _,rfl,rfl,HBq.out,HRk.out,HRun.out,HOut.out,fun _=>⟨rfl,fun q hq=>absurd hq (by omega)⟩,fun e=>by cases e⟩
       case round=>
        obtain⟨wp,eW⟩:∃wp,wp=wr:=⟨_,rfl⟩;subst eW;obtain⟨pc,bb,lp,rp,hpc,rfl,rfl,hbp,hRp,hRd⟩:=hrel;have HBp:=qAg hbp;have HRp:=qAg hRp;have HRd:=qAg hRd;have hlp:lp.length=uc:=by rw[hRd.runF.len,HUC.out]
        have HLp:=qAg hlp;have hsp:=hbp.size;clear hbp hRp hRd hlp
        by_cases hltp:pc<uc
        · obtain⟨⟨sb,s⟩,hx⟩:∃y,lp[pc]? =some y:=⟨lp[pc]'(by rw[HLp.out];exact hltp),List.getElem?_eq_getElem _⟩
          obtain⟨A,cA,hrA,hs0,hs1,hle,hcm,hnil,hsqA⟩:=HRp.out.cells hx;simp only at hs0 hs1 hle hsqA hrA;have HX:=qAg hx;have p0:(0:Int)≤(pc:Int):=by omega
          have p1:(pc:Int)<(uc:Int):=by omega
          clear hx
          cases sb
          · go_wp2_with fail
            refine⟨⟨pc+1,bb,lp,rp,by omega,by simp,rfl,HBp.out,HRp.out,HRd.out.ok fun _ e ho q hq=> ?_⟩,by simp[intOf];omega⟩
            by_cases e2:q=pc
            · subst e2
              intro z hz;rw[←e,qCA HX.out] at hz
              cases hz
            · exact ho q (by omega)
          · obtain⟨ins,hi⟩:∃ins,fn.code[pc]? =some ins:=⟨fn.code[pc]'(by rw[HUC.out];exact hltp),List.getElem?_eq_getElem _⟩
            have hu:=HRd.out.runF.run.und (qA7 HX.out);obtain⟨hcan,hs8⟩:=HRd.out.runF.run.can pc s (qA7 HX.out);obtain⟨er,t,ks,hfe⟩:∃er t ks,insB8 x fn ins pc s=(er,t,ks):=⟨_,_,_,rfl⟩;obtain⟨nk,hnk⟩:∃nk,ks.length=nk:=⟨_,rfl⟩;obtain⟨nt,hnt⟩:∃nt,t.length=nt:=⟨_,rfl⟩;have FA:Hid (∀v,Below wp.heap.size wp v→Calls Tryz.prog 17 #[.agg #[.slice A0 n0 d0,.slice (some a) n1 d1,.slice A2 n2 d2,.slice A3 n3 d3,.slice A4 n4 d4],.int .i64 (k:Int),.int .i64 (pc:Int),.slice A s.length cA] v (RFlows (er,t,ks) v)):=fun v hb=>by
             have:=TF.out v k pc fn ins A cA s (HBW.out.trans ((HBk.out.trans ((HBp.out.trans (hb.mono hsp)).mono hskr)).mono HBW.out.size)) HF.out hi ((hsqA.keep fun b h1=>hb.block b h1.2.1).wide fun b h1=>qAh h1.2.1 hb.size) hs8 hle hcm hnil
             rwa [hfe] at this
            have HU:=qAg hu;have HIn:=qAg hi;have HFE:=qAg hfe;have HCan:=qAg hcan;have HNK:=qAg hnk;have HNT:=qAg hnt;have HRA:=qAg hrA;obtain⟨y0,y1,y2,y3,y4⟩:=HBV.out _ (HBk.out.trans (HBp.out.mono hskr));have HCV:Hid (∀v,Below wp.heap.size wp v→v.cell? ⟨w.heap.size,0,none⟩=some (.slice A0 n0 d0)∧v.cell? ⟨w.heap.size,1,none⟩=some (.slice (some a) n1 d1)∧v.cell? ⟨w.heap.size,2,none⟩=some (.slice A2 n2 d2)∧v.cell? ⟨w.heap.size,3,none⟩=some (.slice A3 n3 d3)∧v.cell? ⟨w.heap.size,4,none⟩=some (.slice A4 n4 d4)∧v.cell? ⟨wf.heap.size,pc*2+1,none⟩=some (.slice A s.length cA)):=fun v hb=>by
             obtain⟨a0,a1,a2,a3,a4⟩:=HBV.out v (HBk.out.trans ((HBp.out.trans (hb.mono hsp)).mono hskr));obtain⟨A',c',e1,-,h2,-⟩:=(HRp.out.below hb).cells HX.out;rw[HRA.out] at e1;simp only[Option.some.injEq,Prod.mk.injEq,true_and,Value.slice.injEq] at e1;obtain⟨rfl,-,rfl⟩:=e1;exact⟨a0,a1,a2,a3,a4,h2⟩
            have SW:=qAg (HCV.out wp (qAk _ _));clear hu hi hfe hcan hnk hnt hrA hsqA y0 y1 y2 y3 y4 hs1
            go_wp2_with fail
            go_region_held3 (fun v=>v.cell? ⟨w.heap.size,0,none⟩=some (.slice A0 n0 d0)∧v.cell? ⟨w.heap.size,1,none⟩=some (.slice (some a) n1 d1)∧v.cell? ⟨w.heap.size,2,none⟩=some (.slice A2 n2 d2)∧v.cell? ⟨w.heap.size,3,none⟩=some (.slice A3 n3 d3)∧v.cell? ⟨w.heap.size,4,none⟩=some (.slice A4 n4 d4)∧v.cell? ⟨wf.heap.size,pc*2+1,none⟩=some (.slice A s.length cA))
             (first|exact SS5.out|exact SW.out|exact HCV.out _ (qAk _ wp).drew)
             (first
             |(go_at_call 17
               refine(FA.out _ (qAk _ wp).drew).mono ?_;rintro e w5 ⟨hb5,A5,c5,B5,d5,rfl,ht5,hl5,hn5,hlo5,hlb5⟩;have HB5:Hid (Below wp.heap.size wp w5):=(by show Below _ _ _;exact(qAk _ wp).drew.trans (hb5.mono (by simp)));have SS5:=qAg (HCV.out _ HB5.out);have HT5:=qAg ht5;have HL5:=qAg hl5;have HO5:=qAg (And.intro hn5 (And.intro hlo5 hlb5));clear hb5 ht5 hl5 hn5 hlo5 hlb5))
            have hs5:=HB5.out.size;have hpp:=HRp.out.lt;have HBF:Hid (Below wf.heap.size wf w5):=HBp.out.trans (HB5.out.mono hsp)
            by_cases he:er=0
            rotate_left
            · have hne:(er != 0)=true:=by simpa using he
              go_wp2_with fail
              go_ret2;exact⟨HBW.out.trans ((HBk.out.trans (HBF.out.mono hskr)).mono HBW.out.size),.inl ⟨⟨fn,HMem.out,qC6 HU.out HIn.out (by rw[HFE.out];exact he)⟩,rfl⟩⟩
            subst he;obtain⟨hct,h8t⟩:=qED HC.out HMem.out HCan.out HFE.out;have HTh:=qAg (qCo HC.out HMem.out HIn.out HFE.out);have HCt:=qAg hct;have hk2:=qFn HFE.out;obtain⟨hn5,hlo5,hlb5⟩:=HO5.out;obtain⟨A',c',ea,hle5,hcm5,hsq5⟩:=HT5.out;simp only[List.cons.injEq,Value.slice.injEq,and_true,true_and] at ea;obtain⟨rfl,rfl⟩:=ea;have HSQ5:Hid (Sq typL (fun b=>wf.heap.size≤b∧b<w5.heap.size∧b≠wf.heap.size) w5 A5 t):=fun hn=>by
             obtain⟨a9,e9,hs9,hc9⟩:=hsq5 hn;have h9:=hlo5 a9 e9;simp at h9;exact⟨a9,e9,⟨by omega,hs9,by omega⟩,hc9⟩
            have HLB5:Hid (∀a,B5=some a→wp.heap.size≤a.block):=fun a9 e9=>by simpa using hlb5 a9 e9
            have hcm5':c5≤9223372036854775807:=by unfold maxLen at hcm5;omega
            rw[HNK.out] at hk2;rw[HNT.out] at h8t hle5;have HCM5:=qAg hcm5;have HN5:=qAg hn5;rw[HNK.out,HNT.out];clear hct hsq5 hlo5 hlb5 SS5 SW hcm5 hn5 HO5 HT5
            go_wp2_with fail
            go_loopw [7,12] (fun b i wt=>∃(m:Nat) (b2:Bool) (lt:List Shape) (rt:List (Bool×Value)),m≤nk∧i= .int .i64 (m:Nat)∧b= .bool b2∧(bb=true→b2=true)∧Only wf.heap.size w5 wt∧Rk wf.heap.size wf.heap.size wt lt rt∧Rnd x fn l lt b2 ((∀q,q<pc→okAt x fn (toS l) q)∧∀k'∈ks.take m,leO (some t) (toS l k'.toNat))) (fun _ i _=>nk-(intOf i).toNat)
            case atStart=>exact⟨0,bb,lp,rp,qAq _,rfl,rfl,id,qBs _ _,HRp.out.below HB5.out,HRd.out.ok fun _ _ ho=>⟨ho,fun k' hk'=>by simp at hk'⟩⟩
            case round=>
             obtain⟨wt,eW⟩:∃wt,wt=wr:=⟨_,rfl⟩;subst eW;obtain⟨m,b2,lt,rt,hm,rfl,rfl,hbb,hon,hRt,hRdt⟩:=hrel;have HOn:=qAg hon;have HRt:=qAg hRt;have HRdt:=qAg hRdt;have hst:=hon.size;clear hon hRt hRdt
             by_cases hltm:m<nk
             · obtain⟨k',hk'⟩:∃k',ks[m]? =some k':=⟨ks[m]'(by rw[HNK.out];exact hltm),List.getElem?_eq_getElem _⟩
               have hkm:=qAl hk';obtain⟨hk0,hkl⟩:=HTh.out k' hkm;obtain⟨kn,rfl⟩:∃kn:Nat,k'=(kn:Int):=⟨k'.toNat,by omega⟩;rw[Int.toNat_natCast,HUC.out] at hkl;obtain⟨aB,rfl,hB2,hB3⟩:=HL5.out m _ hk';have hB1:=HLB5.out aB rfl;have hcB:=(qAy (HOn.out.block (aB.add m).block (by rw[qAz];exact hB2) (by rw[qAz];intro e;injection e;omega))).trans hB3;have HTk:Hid (ks.take (m+1)=ks.take m++[(kn:Int)]):=by
                show _=_
                obtain⟨h1,h2⟩:=qAj.1 hk';rw[qAp h1,h2]
               have HKM:=qAg hkm;have hlt:lt.length=uc:=by rw[HRdt.out.runF.len,HUC.out]
               have HLt:=qAg hlt;obtain⟨⟨sb2,u⟩,hx2⟩:∃y,lt[kn]? =some y:=⟨lt[kn]'(by rw[hlt];exact hkl),List.getElem?_eq_getElem _⟩;obtain⟨Au,cu,hru,ht0,ht1,hleu,hcmu,hnilu,hsqu⟩:=HRt.out.cells hx2;simp only at ht0 ht1 hleu hsqu hru;have ht2:=HRt.out.row.frozenAt (kn*2);have ht3:=HRt.out.row.frozenAt (kn*2+1);have HX2:=qAg hx2;have HRu:=qAg hru;have m0:(0:Int)≤(m:Int):=by omega
               have m1:(m:Int)<(nk:Int):=by omega
               have q0:(0:Int)≤(kn:Int):=by omega
               have q1:(kn:Int)<(uc:Int):=by omega
               have HSQt:Hid (Sq typL (fun b=>wf.heap.size≤b∧b<wt.heap.size∧b≠wf.heap.size) wt A5 t):=(HSQ5.out.keep fun b hb=>HOn.out.block b hb.2.1 (by intro e;injection e with e;exact hb.2.2 e)).wide fun b hb=>⟨hb.1,qAh hb.2.1 hst,hb.2.2⟩;clear hk' hkm hk0 hB1 hB2 hB3 hlt hx2 hru
               cases sb2
               · go_wp2_with fail
                 have hRs:=HRt.out.seen (k:=kn) (by rw[HLt.out];exact hkl) (by rw[HNT.out];exact hle5) HCM5.out HN5.out HSQt.out;rw[HNT.out] at hRs;exact⟨⟨m+1,true,_,_,by omega,by simp,rfl,fun _=>rfl,qBA (qBA HOn.out _ _) _ _,hRs,HRdt.out.seen HX2.out HU.out HIn.out HFE.out HKM.out HCt.out (by rw[HNT.out];exact h8t)⟩,by simp[intOf];omega⟩
               · obtain⟨nu,hnu⟩:∃nu,u.length=nu:=⟨_,rfl⟩
                 rw[hnu] at ht1 hleu;have HNU:=qAg hnu;clear hnu
                 by_cases hlen:nu=nt
                 rotate_left
                 · have hne:¬(nu:Int)=(nt:Int):=by omega
                   go_wp2_with fail
                   go_ret2;exact⟨HBW.out.trans ((HBk.out.trans ((HBF.out.trans (qEL HOn.out (qAi _) (by omega))).mono hskr)).mono HBW.out.size),.inl ⟨⟨fn,HMem.out,qCO HRdt.out.runF.run HU.out HIn.out HFE.out HKM.out (qA7 HX2.out) (by rw[HNU.out,HNT.out];exact hlen)⟩,rfl⟩⟩
                 · subst hlen
                   have HOE:=qAg (qBa wt);have HSQu:=qAg hsqu;have hcmu2:cu≤9223372036854775807:=by unfold maxLen at hcmu;omega
                   have ht4:∀ob,(wt.alloc ob).cell? ⟨wf.heap.size,kn*2+1,none⟩=some (.slice Au nu cu):=fun ob=>(qAy (qBh wt ob _ HRt.out.lt)).trans ht1;clear hsqu hcmu
                   go_upto_region 26 with(at_builtin
                                          refine qBD _ rfl (.tmp 94) (.tmp 98) rfl wt.heap.size (.slice (some ⟨wt.heap.size,0,none⟩) 0 0) 0 [] rfl HOE.out Au nu cu u rfl HNU.out (fun b=>wf.heap.size≤b∧b<wt.heap.size∧b≠wf.heap.size) (HSQu.out.keep fun b hb=>qBh _ _ _ hb.2.1) (by omega) (by simp) ?_;intro v7 w7 hown7 hg7 _;have HB7:=qAg ((qAo wt _).grown hg7 (by simp) (fun i hi=>(HOE.out.lt i hi).1));have HO7:=qAg hown7;clear hown7 hg7)
                   refine qAs fun W7 hW7=> ?_;have hstk:=qHJ (by simpa using HO7.out) HSQu.out.a64 HNU.out;obtain⟨A7,c7,rfl,hle7,hcm7,hnil7⟩:=hstk.shape;rw[HNU.out] at hle7;have HBW7:Hid (Below wt.heap.size wt W7):=by show Below _ _ _;rw[hW7];exact HB7.out
                   have HJ0:Hid (W7.ownsRow wt.heap.size 41 2 (.slice A7 nu c7) nu (T2 (mixJ u t 0))):=by
                    show World.ownsRow _ _ _ _ _ _ _
                    rw[hW7,qDC];have:=HO7.out;rw[HNU.out] at this;simpa using this
                   have hcm7':c7≤9223372036854775807:=by unfold maxLen at hcm7;omega
                   have HN7:=qAg hnil7;have HCM7:=qAg hcm7;rw[HNU.out];clear hW7 hstk HO7 HB7 hnil7 hcm7 HOE
                   go_wp2_with fail
                   go_loopw [15] (fun i wj=>∃j:Nat,j≤nu∧i= .int .i64 (j:Nat)∧Below wt.heap.size wt wj∧wj.ownsRow wt.heap.size 41 2 (.slice A7 nu c7) nu (T2 (mixJ u t j))) (fun i _=>nu-(intOf i).toNat)
                   case atStart=>exact⟨0,qAq _,rfl,HBW7.out,HJ0.out⟩
                   case round=>
                    obtain⟨wj,eW⟩:∃wj,wj=wr:=⟨_,rfl⟩;subst eW;obtain⟨j,hj,rfl,hbj,hown⟩:=hrel;have HBj:=qAg hbj;have HOj:=qAg hown;have hsj:=hbj.size;clear HJ0 HBW7 hbj hown
                    by_cases hltj:j<nu
                    · obtain⟨y,hy⟩:∃y,t[j]? =some y:=⟨t[j]'(by rw[HNT.out];exact hltj),List.getElem?_eq_getElem _⟩
                      obtain⟨v,hv⟩:∃v,u[j]? =some v:=⟨u[j]'(by rw[HNU.out];exact hltj),List.getElem?_eq_getElem _⟩;have hm2:=qD6 hv hy;have hms:=qDD hv hy;obtain⟨g7,rfl⟩:∃g7,A7=some ⟨g7,0,none⟩:=by
                       rcases HOj.out.2 with⟨_,h0⟩|⟨g7,cap,cur,e,_⟩
                       · omega
                       · simp only[Value.slice.injEq,true_and] at e
                         exact⟨g7,e.1⟩
                      obtain⟨a5,cs5,rfl,hab5,hc5,hr5⟩:=HSQt.out.at hy;obtain⟨rfl,-,-⟩:=hr5;have HCJ:Hid (∀o,Below wj.heap.size wj o→o.cell? ⟨g7,j*2,none⟩=some (.int .i64 v.1)∧o.cell? ⟨g7,j*2+1,none⟩=some (.int .i64 v.2)∧o.frozen? ⟨g7,j*2,none⟩=false∧o.frozen? ⟨g7,j*2+1,none⟩=false∧o.cell? (a5.add (j*2))=some (.int .i64 y.1)∧o.cell? ⟨(a5.add (j*2)).block,(a5.add (j*2)).off+1,none⟩=some (.int .i64 y.2)):=fun o hb=>by
                       have ho:=qBk HOj.out (hb.block g7 (HOj.out.lt g7 rfl).2);have hbo:=HBj.out.trans (hb.mono hsj);have k0:=(hbo.cell (p:=a5.add (j*2)) (by rw[qAz];exact hab5.2.1)).trans (hc5 0 _ rfl);have k1:=(hbo.cell (p:=a5.add (j*2+1)) (by rw[qAz];exact hab5.2.1)).trans (hc5 1 _ rfl);rw[qAm a5 (j*2) 1 (by omega)] at k1;exact⟨(ho.cellAt (j*2) (by omega)).trans (qC2 hm2),(ho.cellAt (j*2+1) (by omega)).trans (qC1 hm2),ho.frozenAt _,ho.frozenAt _,k0,k1⟩
                      have HM2:=qAg hm2;have HMs:=qAg hms;obtain⟨w0,w1,w2,w3,w4,w5'⟩:=HCJ.out wj (qAk _ _);obtain⟨v1,v2⟩:=v;obtain⟨y1,y2⟩:=y;simp only at w0 w1 w4 w5' HCJ;have RJ1:Hid (∀o,Calls Tryz.prog 18 #[.agg #[.int .i64 v1,.int .i64 v2],.agg #[.int .i64 y1,.int .i64 y2]] o fun e w'=>e= .returned (.agg #[.int .i64 (joinT (v1,v2) (y1,y2)).1,.int .i64 (joinT (v1,v2) (y1,y2)).2])∧Below o.heap.size o w'):=fun o=>RJ.out (v1,v2) (y1,y2) o;generalize joinT (v1,v2) (y1,y2)=jt at RJ1 HMs;obtain⟨j1,j2⟩:=jt;have j0:(0:Int)≤(j:Int):=by omega
                      have j1':(j:Int)<(nu:Int):=by omega
                      clear hm2 hms hv hy hc5 hab5
                      go_wp2_with fail
                      go_region_with (first
                       |(go_at_call 18
                         refine(RJ1.out _).mono ?_;rintro e w9 ⟨rfl,hb9⟩;have HB9:Hid (Below wj.heap.size wj w9):=(by show Below _ _ _;first|exact hb9|exact((qAk _ wj).drew).trans (hb9.mono (by simp)));obtain⟨r0,r1,r2,r3,r4,r5⟩:=HCJ.out _ HB9.out;clear hb9))
                      all_goals
                       go_wp2_with fail
                       have hk1:=((qC7 HOj.out HB9.out (qAi _)).stored (j*2) (.int .i64 j1)).1;have hk2:=(hk1.stored (j*2+1) (.int .i64 j2)).1;have hs1:((mixJ u t j).set j (j1,v2))[j]? =some (j1,v2):=List.getElem?_set_self (qAj.1 HM2.out).1;rw[qHZ HM2.out,qHY hs1,List.set_set,←HMs.out] at hk2;have hg7:=(HOj.out.lt g7 rfl).1;exact⟨⟨j+1,by omega,by simp,((HBj.out.trans (HB9.out.mono hsj)).setCell (p:=⟨g7,j*2,none⟩) hg7 _).setCell (p:=⟨g7,j*2+1,none⟩) hg7 _,hk2⟩,by simp[intOf];omega⟩
                    · obtain rfl:j=nu:=by omega
                      have hall:=qFo (u:=u) (t:=t) (by rw[HNU.out,HNT.out]);rw[HNT.out] at hall;have hown:=HOj.out;rw[hall] at hown;have h64:A64 (joinL u t):=qJK HSQu.out.a64 HSQt.out.a64;have hjl:(joinL u t).length=j:=by rw[qDG (by rw[HNU.out,HNT.out]),HNU.out]
                      obtain⟨A',c',e,-,-,-,hsq7⟩:=qCl hown h64;simp only[Value.slice.injEq,true_and] at e;obtain⟨rfl,rfl⟩:=e;have hsqu':Sq typL (fun b=>wf.heap.size≤b∧b<wt.heap.size∧b≠wf.heap.size) wj Au u:=HSQu.out.keep fun b hb=>HBj.out.block b hb.2.1;have TC:=qAg (TT.out A7 Au j j c7 cu (joinL u t) u wj _ _ hjl HNU.out hsq7 hsqu' (by omega) (by omega));have HS7:=qAg hsq7;have HJL:=qAg hjl;obtain⟨A',c',e1,-,e2,-⟩:=(HRt.out.below HBj.out).cells HX2.out;rw[HRu.out] at e1;simp only[Option.some.injEq,Prod.mk.injEq,true_and,Value.slice.injEq] at e1;obtain⟨rfl,-,rfl⟩:=e1;simp only[HNU.out] at e2;clear hall hown h64 hjl hsq7 hsqu'
                      by_cases hje:joinL u t=u
                      · rw[qFC.2 hje] at TC
                        go_wp2_with fail
                        refine TC.out.mono ?_;rintro e w8 ⟨rfl,q,rfl⟩;have hb8:=HBj.out.trans ((qBm wj q).mono hsj)
                        go_wp2_with fail
                        refine⟨⟨m+1,b2,lt,rt,by omega,by simp,rfl,hbb,qCm HOn.out (qD1 hb8),HRt.out.below hb8,HRdt.out.ok fun e1 e2 ho=>⟨ho.1,fun k'' hk''=> ?_⟩⟩,by simp[intOf];omega⟩;rw[HTk.out] at hk'';rcases List.mem_append.1 hk'' with hk''|hk''
                        · exact ho.2 k'' hk''
                        · simp only[List.mem_singleton] at hk''
                          subst hk'';rw[Int.toNat_natCast];intro z hz;injection hz with hz;subst hz;exact⟨u,by rw[←e2];exact qA7 HX2.out,qGs (by rw[HNU.out,HNT.out]) hje⟩
                      · rw[qG2 hje] at TC
                        have HNE:=qAg hje;clear hje
                        go_wp2_with fail
                        refine TC.out.mono ?_;rintro e w8 ⟨rfl,q,rfl⟩;have hb8:=HBj.out.trans ((qBm wj q).mono hsj);have HB8:=qAg hb8;have HS8:=qAg (HS7.out.keep (w':=wj.drewN q) fun b hb=>(qBm wj q).block b hb.2);have hsz8:=(qBm wj q).size;generalize wj.drewN q=W8 at HB8 HS8 hsz8 hb8⊢;have hR8:=HRt.out.below HB8.out;obtain⟨A',c',e1,e3,e4,-⟩:=hR8.cells HX2.out;rw[HRu.out] at e1;simp only[Option.some.injEq,Prod.mk.injEq,true_and,Value.slice.injEq] at e1;obtain⟨rfl,-,rfl⟩:=e1;simp only[HNU.out] at e4;have e5:=hR8.row.frozenAt (kn*2+1);have HR8:=qAg hR8;have hpt:=HRt.out.lt;clear hR8 hb8
                        go_wp2_with fail
                        have hRs:=HR8.out.stack HX2.out (A:=A7) (c:=c7) (t:=joinL u t) (by rw[HJL.out];exact hle7) HCM7.out HN7.out (HS8.out.wide fun b hb=>⟨by omega,by omega,by omega⟩);rw[HJL.out] at hRs;exact⟨⟨m+1,true,_,_,by omega,by simp,rfl,fun _=>rfl,qBA (qCm HOn.out (qD1 HB8.out)) _ _,hRs,HRdt.out.join HX2.out HU.out HIn.out HFE.out HKM.out (by rw[HNU.out,HNT.out]) HCt.out HNE.out⟩,by simp[intOf];omega⟩
             · obtain rfl:m=nk:=by omega
               go_wp2_with fail
               refine⟨⟨pc+1,b2,lt,rt,by omega,by simp,rfl,HBF.out.trans (qEL HOn.out (qAi _) (by omega)),HRt.out,HRdt.out.ok fun e1 e2 ho q hq=> ?_⟩,by simp[intOf];omega⟩
               by_cases e:q=pc
               · subst e
                 have eb:bb=false:=by
                  cases bb
                  · rfl
                  · rw[hbb rfl] at e1;cases e1
                 have hl2:=(HRd.out.same eb).1;intro z hz;rw[←hl2,qA7 HX.out] at hz;injection hz with hz;subst hz;refine⟨ins,t,ks,HIn.out,HFE.out,fun k' hk'=>ho.2 k' ?_⟩;rw[qAn (by rw[HNK.out];exact qAi _)];exact hk'
               · exact ho.1 q (by omega)
        · obtain rfl:pc=uc:=by omega
          go_wp2_with fail
          have hJ2:Head x fn wf wf.heap.size (rkS (toS lp) fn.code.length+(if bb then 1 else 0)) (.bool bb,wp):=⟨bb,lp,rp,rfl,HBp.out,HRp.out,HRd.out.runF,HRd.out.out,fun e q hq=>by
           have h2:=(HRd.out.same e).2 q (by rw[←HUC.out];exact hq);rw[(HRd.out.same e).1];exact h2,rfl⟩
          refine⟨⟨_,hJ2⟩,Nat.lt_of_le_of_lt ((HFr.out _ ⟨_,hJ2⟩).2 _ hJ2) ?_⟩;rw[HNn.out]
          cases bb
          · rw[(HRd.out.same rfl).1];simp
          · have:=HRd.out.less rfl
            simp
            omega
  · obtain rfl:k=n1:=by omega
    have hsl:=HO.out.slice;have hsl2:=hsl;obtain⟨A,c,e,-⟩:=hsl2;simp only[List.cons.injEq,and_true] at e;subst e;have HSl:=qAg hsl;clear hsl
    go_wp2_with fail
    go_ret2;exact⟨HBW.out.trans (HBk.out.mono HBW.out.size),.inr ⟨L,A,c,⟨by rw[HLk.out,HN1.out],HLe.out⟩,rfl,mapsL.wide HSl.out fun b hb=>hb.2⟩⟩
end Go.Proofs.YtelceoecekfamaaGreat
