/-
Ctt Fonw Fcp Ffo Ffp Fon1 Fon2 Fon3 Fon4 Fon Ffw Ffn
-/
import Derived.Test.YtelceoecekfamaaGreatQ07
import Derived.Test.YtelceoecekfamaaGreatQ11
import Derived.Deep.RegionHeld3
import Derived.Deep.RegionWith
import Derived.Lib.QuietBelow
import Derived.BigQuiet
import Derived.OwnWalk
set_option linter.unusedSimpArgs false
set_option linter.unusedVariables false
set_option maxRecDepth 100000
set_option maxHeartbeats 4000000
namespace Go.Proofs.YtelceoecekfamaaGreat
open Go.RowKit
variable {N b:Nat}{c:Prop}{f fn:Fn}{i:Ins}{ins:List Typ}{m:Mod}{outs:List Typ}{pc:Int}{r s ts:List Typ}{w:World}{x:Mod}
theorem qJW (n:Nat) (w:World) (hn:n≤1000000000):
 Calls Tryz.prog 114 #[.slice none 0 0,.int .i64 (n:Nat)] w fun e w'=>∃v,e= .returned v∧w'.ownsRow w.heap.size 41 2 v 0 (T2 [])∧Below w.heap.size w w':=by
 rcases Nat.eq_zero_or_pos n with h|h
 · subst h
   go_enter Tryz.func114,Tryz.ntmps114
   go_wp2
   go_ret;exact⟨_,rfl,World.ownsRow_nil _ _ _ _,qAk _ _⟩
 · go_enter Tryz.func114,Tryz.ntmps114
   go_wp2_with (at_builtin
                refine qET _ rfl (.tmp 20) (.tmp 21) rfl n h hn rfl rfl ?_;intro G w1 hG hG2 hown hb;have hG3:G≤9223372036854775807:=by unfold maxLen at hG2;omega
                have HO:=qAg hown;clear hown hG2)
   go_ret;exact⟨_,rfl,HO.out,hb⟩
theorem qCw (xss:List (List Typ)) (k:Nat):(xss.take k).flatten.length≤xss.flatten.length:=by
 conv=>rhs;rw[←List.take_append_drop k xss,List.flatten_append]
 rw[List.length_append]
 omega
theorem qEF {xss:List (List Typ)} {k:Nat} {x:List Typ} (h:xss[k]? =some x):(xss.take (k+1)).flatten=(xss.take k).flatten++x:=by
 obtain⟨hk,rfl⟩:=qAj.1 h;rw[qAp hk,List.flatten_append];simp
theorem qCp (A:Option Addr) (n c:Nat) (xss:List (List Typ)) (w:World) (hl:xss.length=n) (hR:Sq tysL (·<w.heap.size) w A xss) (hn:xss.flatten.length≤1000000) (hn2:n≤1000000):
 Calls Tryz.prog 105 #[.slice A n c] w fun e w'=>∃v,e= .returned v∧w'.ownsRow w.heap.size 41 2 v xss.flatten.length (T2 xss.flatten)∧Below w.heap.size w w':=by
 have HL:=qAg hl;have HR:=qAg hR;clear hl hR
 go_enter Tryz.func105,Tryz.ntmps105
 go_wp2_with fail
 go_loop [3,11] (fun s i=>∃k:Nat,k≤n∧i= .int .i64 (k:Nat)∧s= .int .i64 (((xss.take k).flatten.length:Nat):Int)) (fun _ i=>n-(intOf i).toNat)
 case atStart=>exact⟨0,qAq _,rfl,by simp⟩
 case round=>
  obtain⟨k,hk,rfl,rfl⟩:=hrel;have hle:=qCw xss k;obtain⟨m,hm⟩:∃m,(xss.take k).flatten.length=m:=⟨_,rfl⟩;rw[hm] at hle⊢;have HM:=qAg hm;clear hm
  by_cases hlt:k<n
  · obtain⟨x,hx⟩:∃x,xss[k]? =some x:=⟨xss[k]'qS,List.getElem?_eq_getElem _⟩
    obtain⟨a,cs,rfl,hab,hc,hr⟩:=HR.out.at hx;obtain⟨A2,d2,rfl,-,-,-⟩:=hr;have hcell:=qBI (K:=tysL.k) rfl (hc 0 _ rfl);clear hc;have HF:=qAg (qEF hx);have hle2:=qCw xss (k+1);rw[HF.out,List.length_append,HM.out] at hle2;clear hx
    go_wp2_with fail
    refine⟨⟨k+1,by omega,by simp,?_⟩,by simp[intOf];omega⟩;rw[HF.out,List.length_append,HM.out];simp
  · obtain rfl:k=n:=by omega
    have HE:Hid (m=xss.flatten.length):=by
     show m=xss.flatten.length
     rw[←HM.out,qAn qO]
    go_wp2_with fail
    refine(qJW m w (by omega)).mono ?_;rintro e w1 ⟨v1,rfl,hown1,hb1⟩;refine qAA ?_;intro HO1 HB1;clear hown1 hb1
    go_wp2_with fail
    go_loopw [6,27] (fun s i wr=>∃j:Nat,j≤k∧i= .int .i64 (j:Nat)∧wr.ownsRow w.heap.size 41 2 s (xss.take j).flatten.length (T2 (xss.take j).flatten)∧Below w.heap.size w wr) (fun _ i _=>k-(intOf i).toNat)
    case atStart=>exact⟨0,qAq _,rfl,by simpa using HO1.out,HB1.out⟩
    case round=>
     obtain⟨j,hj,rfl,hown,hbel⟩:=hrel;have HO:=qAg hown;refine jc ?_;intro HB hs;clear hown hbel;have hlej:=qCw xss j
     by_cases hlt2:j<k
     · obtain⟨x,hx⟩:∃x,xss[j]? =some x:=⟨xss[j]'(by rw[HL.out];exact hlt2),List.getElem?_eq_getElem _⟩
       obtain⟨a,cs,rfl,hab,hc,hr⟩:=HR.out.at hx;obtain⟨A2,d2,rfl,-,-,hsq⟩:=hr;have hcell2:=(HB.out.cell (p:=a.add j) qB).trans (qBI (K:=tysL.k) rfl (hc 0 _ rfl));clear hc;have HF:=qAg (qEF hx);have hle2:=qCw xss (j+1);rw[HF.out,List.length_append] at hle2;have HY:=qAg hsq;clear hx hsq;obtain⟨q,hq⟩:∃q,(xss.take j).flatten=q:=⟨_,rfl⟩;have HQ:=qAg hq;have HO2:Hid (wr.ownsRow w.heap.size 41 2 u6 q.length (T2 q)):=by
        show wr.ownsRow w.heap.size 41 2 u6 q.length (T2 q)
        rw[←hq];exact HO.out
       rw[hq] at hle2 hlej;clear hq HO
       go_wp2_with (at_builtin
                    refine qBD _ rfl (.tmp 31) (.tmp 32) rfl w.heap.size u6 q.length q rfl HO2.out A2 x.length d2 x rfl rfl (·<w.heap.size) (HY.out.below HB.out (qAi _)) (by omega) hs ?_;intro v2 w2 hown2 hg2 _;have HO3:=qAg hown2;clear hown2)
       refine⟨⟨j+1,by omega,by simp,?_,HB.out.grown hg2 hs (fun i hi=>(HO2.out.lt i hi).1)⟩,by simp[intOf];omega⟩;rw[HF.out,HQ.out,List.length_append];exact HO3.out
     · obtain rfl:j=k:=by omega
       go_wp2_with fail
       go_ret;refine⟨_,rfl,?_,HB.out⟩;have:=HO.out;rw[qAn qO] at this;exact this
def Moved (r:Option (List Typ)) (w:World) (e:Ending) (w':World):Prop:=
 Below w.heap.size w w'∧((r=none∧e= .returned (.tuple #[.slice none 0 0,.bool false]))∨∃t v,r=some t∧e= .returned (.tuple #[v,.bool true])∧w'.ownsRow w.heap.size 41 2 v t.length (T2 t))
theorem qB7 (h:s.length<ins.length):movB s ins outs=none:=by
 rw[movB,if_neg]
 omega
theorem qD5 (hb:s.length-ins.length=b) (h:belowT (s.drop b) ins=false):movB s ins outs=none:=by
 rw[movB,if_neg];rw[hb,h];simp
theorem qDB (hb:s.length-ins.length=b) (h:8<b+outs.length):movB s ins outs=none:=by
 rw[movB,if_neg]
 omega
theorem qD4 (hb:s.length-ins.length=b) (hl:ins.length≤s.length) (h:belowT (s.drop b) ins=true) (h8:b+outs.length≤8):movB s ins outs=some (s.take b++outs):=by
 rw[movB,hb,if_pos ⟨hl,h8,h⟩]
theorem qEx {S:Nat→Prop} {D:Option Addr} (h:Sq typL S w D ts) (D':Option Addr) (h':b<ts.length→D'=D.map (·.add (b*2))):Sq typL S w D' (ts.drop b):=fun hn=>by
 have hl:(ts.drop b).length=ts.length-b:=by simp
 rw[h' (by omega)];exact h.drop b hn
theorem qDl {x:Typ} (h:s.reverse=x::r):topB s 0=x:=by
 have e:s=r.reverse++[x]:=by rw[←List.reverse_reverse s,h];simp
 subst e;simp[topB]
theorem qIY {x y:Typ} (h:s.reverse=x::y::r):topB s 1=y:=by
 have e:s=r.reverse++[y,x]:=by rw[←List.reverse_reverse s,h];simp
 subst e;simp[topB]
def chgB (m:Mod) (f:Fn) (i:Ins) (s:List Typ):List Typ×List Typ:=
 if i.1=6 then ([topB s 0],[topB s 0,topB s 0])
 else if i.1=7 then ([topB s 1,topB s 0],[topB s 0,topB s 1])
 else if i.1=41 then ([(5,(topB s 0).2)],[])
 else (ruleB m f i s).getD ([],[])
theorem qJL {α:Type} [Decidable c] {a b:Option α} (ha:∃p,a=some p) (hb:∃p,b=some p):∃p,(if c then a else b)=some p:=by
 split
 · exact ha
 · exact hb
theorem qHi (h0:0≤i.2.1) (hn:namedB m f i=true) (h6:i.1≠6) (h7:i.1≠7) (h41:i.1≠41):∃p,ruleB m f i s=some p:=by
 by_cases h25:i.1=25
 · simp[namedB,h25] at hn
   have hj:i.2.1.toNat<m.funcs.length:=by omega
   exact⟨(_,_),by simp[ruleB,h25,hj];exact⟨rfl,rfl⟩⟩
 by_cases h27:i.1=27
 · simp[namedB,h27] at hn
   have hj:i.2.1.toNat<m.imps.length:=by omega
   exact⟨(_,_),by simp[ruleB,h27,hj];exact⟨rfl,rfl⟩⟩
 by_cases h28:i.1=28
 · simp[namedB,h28] at hn
   have hj:i.2.1.toNat<m.recs.length:=by omega
   exact⟨(_,_),by simp[ruleB,h28,hj];exact⟨rfl,rfl⟩⟩
 · simp only[ruleB,h6,h7,h41,h25,h27,h28,if_false]
   repeat(first|refine qJL ⟨_,rfl⟩ ?_|exact⟨_,rfl⟩)
theorem qIn (h0:0≤i.2.1) (hn:namedB m f i=true):(match ruleB m f i s with|none=>none|some p=>movB s p.1 p.2)=movB s (chgB m f i s).1 (chgB m f i s).2:=by
 by_cases h6:i.1=6
 · cases hs:s.reverse with
   |nil=>
    obtain rfl:s=[]:=by simpa using hs
    rw[qB7 (by simp[chgB,h6])];simp[ruleB,h6]
   |cons x r=>simp[ruleB,chgB,h6,hs,qDl hs]
 by_cases h7:i.1=7
 · cases hs:s.reverse with
   |nil=>
    obtain rfl:s=[]:=by simpa using hs
    rw[qB7 (by simp[chgB,h7])];simp[ruleB,h7]
   |cons x r=>
    cases r with
    |nil=>
     have hl:s.length=1:=by rw[←List.length_reverse,hs];rfl
     rw[qB7 (by simp[chgB,h7,hl])];simp[ruleB,h7,hs]
    |cons y r=>simp[ruleB,chgB,h7,hs,qDl hs,qIY hs]
 by_cases h41:i.1=41
 · cases hs:s.reverse with
   |nil=>
    obtain rfl:s=[]:=by simpa using hs
    rw[qB7 (by simp[chgB,h41])];simp[ruleB,h41]
   |cons x r=>
    have e:s=r.reverse++[x]:=by rw[←List.reverse_reverse s,hs];simp
    by_cases h5:x.1=5
    · have ex:(5,x.2)=x:=Prod.ext h5.symm rfl
      simp[ruleB,chgB,h41,hs,qDl hs,h5,ex]
    · have hb:belowT (s.drop (s.length-1)) [(5,x.2)]=false:=by
       subst e;simp[belowT,subT,subB,refB,h5]
      rw[qD5 (b:=s.length-1) (by simp[chgB,h41]) (by simpa[chgB,h41,qDl hs] using hb)];simp[ruleB,h41,hs,h5]
 · obtain⟨p,hp⟩:=qHi (s:=s) h0 hn h6 h7 h41
   simp[chgB,h6,h7,h41,hp]
theorem ins_chg {pc:Nat} (h0:0≤i.2.1) (hn:namedB m f i=true):
 insB8 m f i pc s=(match movB s (chgB m f i s).1 (chgB m f i s).2 with|none=>(4,[],[])|some t=>match nextB f i pc with|none=>(1,[],[])|some l=>(0,t,l)):=by
 rw[←qIn h0 hn,insB8]
 cases ruleB m f i s with
 |none=>rfl
 |some p=>rfl
def follB (i:Ins) (pc:Int):List Int:=if i.1=26 then [] else if i.1=23 then [i.2.1] else if i.1=24 then [pc+1,i.2.1] else [pc+1]
def Nums (l:List Int) (w:World) (e:Ending) (w':World):Prop:=Below w.heap.size w w'∧∃v,e= .returned v∧w'.ownsRow w.heap.size 3 1 v l.length (Is l)
theorem qFm {g:Nat} {x:Int} (h:Blk w g 3 #[.int .i64 x]) (hg:N≤g):w.ownsRow N 3 1 (.slice (some ⟨g,0,none⟩) 1 1) 1 (Is [x]):=
 ⟨rfl,.inr ⟨g,1,_,rfl,hg,h,qAi _,by simp[maxLen],rfl,rfl⟩⟩
theorem qI7 {g:Nat} {x y:Int} (h:Blk w g 3 #[.int .i64 x,.int .i64 y]) (hg:N≤g):w.ownsRow N 3 1 (.slice (some ⟨g,0,none⟩) 2 2) 2 (Is [x,y]):=
 ⟨rfl,.inr ⟨g,2,_,rfl,hg,h,qAi _,by simp[maxLen],rfl,rfl⟩⟩
theorem qGx (o a b pc:Int) (w:World) (hp:0≤pc) (hp2:pc≤1000000):Calls Tryz.prog 71 #[.agg #[.int .i64 o,.int .i64 a,.int .i64 b],.int .i64 pc] w (Nums (follB (o,a,b) pc) w):=by
 by_cases h26:o=26
 · subst h26
   go_enter Tryz.func71,Tryz.ntmps71
   go_wp2_with fail
   go_ret;exact⟨qAo _ _,_,rfl,⟨rfl,.inl ⟨rfl,rfl⟩⟩⟩
 by_cases h23:o=23
 · subst h23
   go_enter Tryz.func71,Tryz.ntmps71
   go_wp2_with fail
   go_ret;exact⟨(qAo _ _).alloc (by simp) _,_,rfl,qFm (qA9 (by simp)) (by simp)⟩
 by_cases h24:o=24
 · subst h24
   go_enter Tryz.func71,Tryz.ntmps71
   go_wp2_with fail
   go_ret;exact⟨(qAo _ _).alloc (by simp) _,_,rfl,qI7 (qA9 (by simp)) (by simp)⟩
 · have e26:(o==26)=false:=by simpa using h26
   have e23:(o==23)=false:=by simpa using h23
   have e24:(o==24)=false:=by simpa using h24
   have HF:Hid (follB (o,a,b) pc=[pc+1]):=by show follB _ _=_;simp[follB,h26,h23,h24]
   clear h26 h23 h24
   go_enter Tryz.func71,Tryz.ntmps71
   go_wp2_with fail
   go_ret;refine⟨(qAo _ _).alloc (by simp) _,_,rfl,?_⟩;rw[HF.out];exact qFm (qA9 (by simp)) (by simp)
theorem qGw (A:Option Addr) (n c:Nat) (l:List Int) (y:Int) (w:World) (hl:l.length=n) (hn:n≤1000) (h:∀j x,l[j]? =some x→∃a,A=some a∧w.cell? (a.add j)=some (.int .i64 x)):
 Calls Tryz.prog 106 #[.slice A n c,.int .i64 y] w fun e w'=>∃z:Int,e= .returned (.int .i64 z)∧w'=w∧(0≤z↔y∈l):=by
 refine jw ?_;intro HL HS;clear hl h
 go_enter Tryz.func106,Tryz.ntmps106
 go_wp2_with fail
 go_loop [8] (fun i=>∃k:Nat,k≤n∧i= .int .i64 (k:Nat)∧¬y∈l.take k) (fun i=>n-(intOf i).toNat)
 case atStart=>exact⟨0,qAq _,rfl,by simp⟩
 case round=>
  obtain⟨k,hk,rfl,hno⟩:=hrel;have HN:=qAg hno;clear hno
  by_cases hlt:k<n
  · obtain⟨x,hx⟩:∃x,l[k]? =some x:=⟨l[k]'qS,List.getElem?_eq_getElem _⟩
    obtain⟨a,rfl,hc⟩:=HS.out k x hx;have HX:=qAg hx;clear hx
    by_cases hxy:y=x
    · subst hxy
      go_wp2_with fail
      go_ret;exact⟨_,rfl,rfl,fun _=>qAl HX.out,fun _=>by simp⟩
    · have e1:(y==x)=false:=by simpa using hxy
      have HXY:=qAg hxy;clear hxy
      go_wp2_with fail
      refine⟨⟨k+1,by omega,by simp,?_⟩,by simp[intOf];omega⟩;obtain⟨hk2,e⟩:=qAj.1 HX.out;rw[qAp hk2,e];simp only[List.mem_append,List.mem_singleton,not_or];exact⟨HN.out,HXY.out⟩
  · obtain rfl:k=n:=by omega
    go_wp2_with fail
    go_ret;refine⟨_,rfl,rfl,fun h=>absurd h (by omega),fun h=>absurd h ?_⟩;have:=HN.out
    rwa [qAn qO] at this
theorem qEY (A:Option Addr) (n c:Nat) (l:List Int) (y:Int) (w:World) (hl:l.length=n) (hn:n≤1000) (h:∀j x,l[j]? =some x→∃a,A=some a∧w.cell? (a.add j)=some (.int .i64 x)):
 Calls Tryz.prog 72 #[.slice A n c,.int .i64 y] w fun e w'=>e= .returned (.bool (decide (y∈l)))∧w'=w:=by
 have HI:=qAg (qGw A n c l y w hl hn h);clear h hl hn
 go_enter Tryz.func72,Tryz.ntmps72
 go_wp2_with fail
 refine(HI.out).mono ?_;rintro e w1 ⟨z,rfl,rfl,hz⟩;have HZ:=qAg hz;clear hz
 go_wp2_with fail
 go_ret;refine⟨?_,rfl⟩;have:decide (0≤z)=decide (y∈l):=by rw[decide_eq_decide];exact HZ.out
 rw[←this]
 rfl
theorem qDz {n:Nat} {v:Value} {l:List Int} (h:w.ownsRow N 3 1 v n (Is l)):∃A c,v= .slice A n c∧n=l.length∧n≤c∧(∀j x,l[j]? =some x→∃a,A=some a∧N≤a.block∧a.block<w.heap.size∧w.cell? (a.add j)=some (.int .i64 x)):=by
 have hn:n=l.length:=by have:=h.1;rw[qIU] at this;omega
 rcases h.2 with⟨rfl,h0⟩|⟨g,cap,cur,rfl,hb,hg,hnc,hcm,_,_⟩
 · refine⟨none,0,by rw[h0],hn,by omega,fun j x hx=> ?_⟩
   have:=(qAj.1 hx).1
   omega
 · exact⟨some ⟨g,0,none⟩,cap,rfl,hn,hnc,fun j x hx=>⟨_,rfl,hb,(Array.getElem?_eq_some_iff.1 hg).1,h.cells rfl j _ (qJv hx)⟩⟩
theorem qBR (h:checkN x=0) (hf:fn∈x.funcs):fn.args.length≤4∧fn.locs.length≤8∧fn.code.length≤64∧∀i∈fn.code,goodIn i=true∧namedB x fn i=true:=by
 have hF:=qA1.1 (qAw h);have ho:=hF.funcs fn hf;simp only[fnOk,Bool.and_eq_true,qBH] at ho;have hb:badM x=false:=by
  cases hb:badM x
  · rfl
  · rw[qEI (qAw h) hb] at h;cases h
 refine⟨by omega,by omega,by omega,fun i hi=>⟨ho.2.2 i hi,?_⟩⟩
 cases hn:namedB x fn i
 · rw[qDM hf (qGC hi hn)] at hb;cases hb
 · rfl
theorem qIj {p:Imp} (h:checkN x=0) (hf:p∈x.imps):p.args.length≤4:=by
 have ho:=(qA1.1 (qAw h)).imps p hf;simp only[impOk,Bool.and_eq_true,qBH] at ho
 omega
theorem qIi (h:checkN x=0) (hf:r∈x.recs):r.length≤6:=by
 have ho:=(qA1.1 (qAw h)).recs r hf;simp only[recOk,qBH] at ho
 omega
def short2 (p:List Typ×List Typ):Prop:=p.1.length≤8∧p.2.length≤8
theorem qC5 [Decidable c] {a b:List Typ×List Typ} (ha:short2 a) (hb:short2 b):short2 (if c then a else b):=by
 split
 · exact ha
 · exact hb
theorem qGS [Decidable c] {a b:Option (List Typ×List Typ)} (ha:short2 (a.getD ([],[]))) (hb:short2 (b.getD ([],[]))):short2 ((if c then a else b).getD ([],[])):=by
 split
 · exact ha
 · exact hb
theorem qHV (h:checkN x=0):short2 (chgB x f i s):=by
 have e0:short2 ((none:Option (List Typ×List Typ)).getD ([],[])):=⟨by simp,by simp⟩;unfold chgB;refine qC5 ⟨by simp,by simp⟩ (qC5 ⟨by simp,by simp⟩ (qC5 ⟨by simp,by simp⟩ ?_));unfold ruleB
 repeat(first
  |(refine qGS ?_ ?_
    (first
     |(refine⟨?_,?_⟩<;>(simp<;>done))
     |(split
       · rename_i g hg
         first
         |exact⟨by have:=(qBR h (qAl hg)).1;simp;omega,by simp⟩
         |exact⟨by have:=qIj h (qAl hg);simp;omega,by simp⟩
         |exact⟨by have:=qIi h (qAl hg);simp;omega,by simp⟩
       · exact e0)
     |(split<;>first|exact e0|(refine⟨?_,?_⟩<;>(simp<;>done))|(split<;>first|exact e0|(refine⟨?_,?_⟩<;>(simp<;>done))))))
  |(refine⟨?_,?_⟩<;>(simp<;>done)))
theorem qHz {p:Nat} (hn:namedB x f i=true) (hp:p<f.code.length):nextB f i p=if ((f.code.length:Nat):Int)∈follB i (p:Int) then none else some (follB i (p:Int)):=by
 unfold nextB follB
 by_cases h26:i.1=26
 · simp[h26]
 by_cases h23:i.1=23
 · simp[namedB,h23] at hn
   simp[h23]
   omega
 by_cases h24:i.1=24
 · simp[namedB,h24] at hn
   by_cases hq:f.code.length≤p+1
   · have hq2:((f.code.length:Nat):Int)=(p:Int)+1:=by omega
     simp[h24,hq,hq2]
   · have hq2:¬((f.code.length:Nat):Int)=(p:Int)+1:=by omega
     have hq3:¬((f.code.length:Nat):Int)=i.2.1:=by omega
     simp[h24,hq,hq2,hq3]
 · simp only[h26,h23,h24,if_false,List.mem_singleton]
   by_cases hq:f.code.length≤p+1
   · rw[if_pos hq,if_pos (by omega)]
   · rw[if_neg hq,if_neg (by omega)]
theorem on_few (A B D:Option Addr) (n m k c d g:Nat) (ins outs ts:List Typ) (w:World) (hn:ins.length=n) (hm:outs.length=m) (hk:ts.length=k) (sn:Sq typL (·<w.heap.size) w A ins) (sm:Sq typL (·<w.heap.size) w B outs) (sk:Sq typL (·<w.heap.size) w D ts)
 (hlt:k<n) (bn:n≤1000) (bm:m≤1000) (bk:k≤1000) (bg:k≤g) (bg2:g≤9223372036854775807) (bd:m≤d) (bd2:d≤9223372036854775807):Calls Tryz.prog 70 #[.agg #[.slice A n c,.slice B m d],.slice D k g] w (Moved (movB ts ins outs) w):=by
 refine qAU ?_;intro HN HM HK SN SM SK;refine ji ?_;intro HB0;clear hn hm hk sn sm sk;have e1:(k:Int)-(n:Int)<0:=by omega
 have HV:=qAg (qB7 (outs:=outs) (show ts.length<ins.length by rw[HK.out,HN.out];exact hlt));clear hlt
 go_enter Tryz.func70,Tryz.ntmps70
 go_wp2_with fail
 refine qAs fun U hU=> ?_;have HBU:Hid (Below w.heap.size w U):=by show Below _ _ _;rw[hU];exact HB0.out _
 clear hU;refine jk ?_;intro HBR;refine wp_region_quiet_below qV qV ?_
 repeat(quiet_step (fail))
 refine wpQuiet_nil ?_;intro _ hw';obtain⟨⟨dq,osq⟩,hw''⟩:=hw';subst hw''
 go_wp2_with fail
 go_ret2;exact⟨HBR.out dq osq,.inl ⟨HV.out,rfl⟩⟩
theorem on_far (A B:Option Addr) (a:Addr) (n m k c d g:Nat) (ins outs ts:List Typ) (w:World) (hn:ins.length=n) (hm:outs.length=m) (hk:ts.length=k) (sn:Sq typL (·<w.heap.size) w A ins) (sm:Sq typL (·<w.heap.size) w B outs) (sk:Sq typL (·<w.heap.size) w (some a) ts)
 (hlt:¬k<n) (hg:¬g=k-n) (bn:n≤1000) (bm:m≤1000) (bk:k≤1000) (bg:k≤g) (bg2:g≤9223372036854775807) (bd:m≤d) (bd2:d≤9223372036854775807):Calls Tryz.prog 70 #[.agg #[.slice A n c,.slice B m d],.slice (some a) k g] w (Moved (movB ts ins outs) w):=by
 refine qAU ?_;intro HN HM HK SN SM SK;refine ji ?_;intro HB0;clear hn hm hk sn sm sk;refine jl ?_;intro b hb HBe HLe e1 e2 e3 e4 e5 e6 e7 e8;have TE:Hid (∀w1 D' c',Below w.heap.size w w1→(b<k→D'=(some a).map (·.add (b*2)))→Calls Tryz.prog 103 #[.slice D' n c',.slice A n c,.func (.func 104) #[] #[]] w1 fun e w'=>e= .returned (.bool (belowT (ts.drop b) ins))∧Below w1.heap.size w1 w'):=fun w1 D' c' hb1 hd=>
  qB3 D' A n n c' c (ts.drop b) ins w1 (by rw[List.length_drop,HK.out];exact e6) HN.out (qEx ((SK.out.below hb1 (qAi _)).wide fun i hi=>qAh hi hb1.size) D' (by rw[HK.out];exact hd)) ((SN.out.below hb1 (qAi _)).wide fun i hi=>qAh hi hb1.size) (by omega) (by omega)
 have TC:Hid (∀w1 G,Below w.heap.size w w1→Blk w1 G 39 #[.slice (some a) b g,.slice B m d]→Calls Tryz.prog 105 #[.slice (some ⟨G,0,none⟩) 2 2] w1 fun e w'=>∃v,e= .returned v∧w'.ownsRow w1.heap.size 41 2 v (ts.take b++outs).length (T2 (ts.take b++outs))∧Below w1.heap.size w1 w'):=fun w1 G hb1 hblk=>by
  refine jV ?_;intro lb r0 r1 A9 c9 e9 hsq;simp only[List.cons.injEq,Value.slice.injEq,and_true] at e9;obtain⟨rfl,-,-⟩:=e9;have:=qCp (some ⟨G,0,none⟩) 2 2 [ts.take b,outs] w1 rfl hsq (by simp only[List.flatten_cons,List.flatten_nil,List.append_nil,List.length_append,lb,HM.out];omega) (by omega);simpa using this
 refine jL ?_;intro HC HV0 HV1 HV2;rw[hb] at hg;clear hlt hb;have TE2:Hid (∀w1 c',Below w.heap.size w w1→Calls Tryz.prog 103 #[.slice (some (a.add (b*2))) n c',.slice A n c,.func (.func 104) #[] #[]] w1 fun e w'=>e= .returned (.bool (belowT (ts.drop b) ins))∧Below w1.heap.size w1 w'):=fun w1 c' hb1=>TE.out w1 _ c' hb1 (fun h=>rfl);clear TE
 cases hbt:belowT (ts.drop b) ins
 case' true=>by_cases h8:8<b+m
 all_goals
  rw[hbt] at TE2;have HBT:=qAg hbt;clear hbt;have hw1:IntKind.i64.wrap ((b:Int)+(m:Int))=(b:Int)+(m:Int):=by rw[qAv];omega
  try(have h8i:decide ((8:Int)<(b:Int)+(m:Int))=decide (8<b+m):=by rw[decide_eq_decide];omega)
  try rw[decide_eq_true h8] at h8i
  try rw[decide_eq_false h8] at h8i
  go_enter Tryz.func70,Tryz.ntmps70
  go_wp2_with fail
  refine qAs fun U hU=> ?_;refine j4 ?_;intro HBU HCU hsU;clear hU;refine jk ?_;intro HBR;have x0:=cell_regrown HCU.out.1;have x1:=cell_regrown HCU.out.2;refine wp_region_quiet_below qV qV ?_
  repeat(quiet_step (first|with_reducible exact Calls.regrown_of (TE2.out _ _ (HBR.out _ _))))
  refine wpQuiet_nil ?_;intro _ hw';obtain⟨⟨dq,osq⟩,hw''⟩:=hw';subst hw'';refine j6 ?_;intro HB1 HS1
  go_wp2_with fail
  first
  |(go_ret2
    exact⟨HB1.out,.inl ⟨by first|exact HV0.out HBT.out|exact HV1.out h8,rfl⟩⟩)
  |skip
 all_goals
  refine qAs fun V hV=> ?_;refine je ?_;intro HBV HCV hsV;have HVX:=qAg (HV2.out HBT.out (by omega));clear hV x0 x1
  go_region_held3 (fun w'=>w'.cell? ⟨w.heap.size,1,none⟩=some (.slice B m d))
   (first|exact HCV.out|exact SS4.out|exact(((qAo V _).cell (p:=⟨w.heap.size,1,none⟩) hsV).trans HCV.out)|exact(((qAo V _).drew.cell (p:=⟨w.heap.size,1,none⟩) hsV).trans HCV.out))
   (first
   |(go_at_call 105
     refine(TC.out _ V.heap.size ((HBV.out.alloc HBV.out.size _).drew) (qBc V _ _)).mono ?_;rintro e w4 ⟨v4,rfl,hown4,hb4⟩;refine qAE ?_;intro HO4 HB4 SS4;clear hown4 hb4))
  go_wp2_with fail
  go_ret2;refine⟨HBV.out.trans (HB4.out.mono HBV.out.size),.inr ⟨_,v4,HVX.out,rfl,?_⟩⟩;refine⟨HO4.out.1,?_⟩;rcases HO4.out.2 with h|⟨g',cap,cur,e,hb2,rest⟩
  · exact .inl h
  · exact zY
theorem on_full (A B:Option Addr) (a:Addr) (n m k c d g:Nat) (ins outs ts:List Typ) (w:World) (hn:ins.length=n) (hm:outs.length=m) (hk:ts.length=k) (sn:Sq typL (·<w.heap.size) w A ins) (sm:Sq typL (·<w.heap.size) w B outs) (sk:Sq typL (·<w.heap.size) w (some a) ts)
 (hlt:¬k<n) (hg:g=k-n) (bn:n≤1000) (bm:m≤1000) (bk:k≤1000) (bg:k≤g) (bg2:g≤9223372036854775807) (bd:m≤d) (bd2:d≤9223372036854775807):Calls Tryz.prog 70 #[.agg #[.slice A n c,.slice B m d],.slice (some a) k g] w (Moved (movB ts ins outs) w):=by
 refine qAU ?_;intro HN HM HK SN SM SK;refine ji ?_;intro HB0;clear hn hm hk sn sm sk;refine jl ?_;intro b hb HBe HLe e1 e2 e3 e4 e5 e6 e7 e8;have TE:Hid (∀w1 D' c',Below w.heap.size w w1→(b<k→D'=(some a).map (·.add (b*2)))→Calls Tryz.prog 103 #[.slice D' n c',.slice A n c,.func (.func 104) #[] #[]] w1 fun e w'=>e= .returned (.bool (belowT (ts.drop b) ins))∧Below w1.heap.size w1 w'):=fun w1 D' c' hb1 hd=>
  qB3 D' A n n c' c (ts.drop b) ins w1 (by rw[List.length_drop,HK.out];exact e6) HN.out (qEx ((SK.out.below hb1 (qAi _)).wide fun i hi=>qAh hi hb1.size) D' (by rw[HK.out];exact hd)) ((SN.out.below hb1 (qAi _)).wide fun i hi=>qAh hi hb1.size) (by omega) (by omega)
 have TC:Hid (∀w1 G,Below w.heap.size w w1→Blk w1 G 39 #[.slice (some a) b g,.slice B m d]→Calls Tryz.prog 105 #[.slice (some ⟨G,0,none⟩) 2 2] w1 fun e w'=>∃v,e= .returned v∧w'.ownsRow w1.heap.size 41 2 v (ts.take b++outs).length (T2 (ts.take b++outs))∧Below w1.heap.size w1 w'):=fun w1 G hb1 hblk=>by
  refine jV ?_;intro lb r0 r1 A9 c9 e9 hsq;simp only[List.cons.injEq,Value.slice.injEq,and_true] at e9;obtain⟨rfl,-,-⟩:=e9;have:=qCp (some ⟨G,0,none⟩) 2 2 [ts.take b,outs] w1 rfl hsq (by simp only[List.flatten_cons,List.flatten_nil,List.append_nil,List.length_append,lb,HM.out];omega) (by omega);simpa using this
 refine jL ?_;intro HC HV0 HV1 HV2;rw[hb] at hg;clear hlt hb;have hg2:=hg.symm;clear hg;subst hg2;have TE2:Hid (∀w1 c',Below w.heap.size w w1→Calls Tryz.prog 103 #[.slice (some a) n c',.slice A n c,.func (.func 104) #[] #[]] w1 fun e w'=>e= .returned (.bool (belowT (ts.drop b) ins))∧Below w1.heap.size w1 w'):=fun w1 c' hb1=>TE.out w1 _ c' hb1 (fun h=>by omega);clear TE
 cases hbt:belowT (ts.drop b) ins
 case' true=>by_cases h8:8<b+m
 all_goals
  rw[hbt] at TE2;have HBT:=qAg hbt;clear hbt;have hw1:IntKind.i64.wrap ((b:Int)+(m:Int))=(b:Int)+(m:Int):=by rw[qAv];omega
  try(have h8i:decide ((8:Int)<(b:Int)+(m:Int))=decide (8<b+m):=by rw[decide_eq_decide];omega)
  try rw[decide_eq_true h8] at h8i
  try rw[decide_eq_false h8] at h8i
  go_enter Tryz.func70,Tryz.ntmps70
  go_wp2_with fail
  refine qAs fun U hU=> ?_;refine j4 ?_;intro HBU HCU hsU;clear hU;refine jk ?_;intro HBR;have x0:=cell_regrown HCU.out.1;have x1:=cell_regrown HCU.out.2;refine wp_region_quiet_below qV qV ?_
  repeat(quiet_step (first|with_reducible exact Calls.regrown_of (TE2.out _ _ (HBR.out _ _))))
  refine wpQuiet_nil ?_;intro _ hw';obtain⟨⟨dq,osq⟩,hw''⟩:=hw';subst hw'';refine j6 ?_;intro HB1 HS1
  go_wp2_with fail
  first
  |(go_ret2
    exact⟨HB1.out,.inl ⟨by first|exact HV0.out HBT.out|exact HV1.out h8,rfl⟩⟩)
  |skip
 all_goals
  refine qAs fun V hV=> ?_;refine je ?_;intro HBV HCV hsV;have HVX:=qAg (HV2.out HBT.out (by omega));clear hV x0 x1
  go_region_held3 (fun w'=>w'.cell? ⟨w.heap.size,1,none⟩=some (.slice B m d))
   (first|exact HCV.out|exact SS4.out|exact(((qAo V _).cell (p:=⟨w.heap.size,1,none⟩) hsV).trans HCV.out)|exact(((qAo V _).drew.cell (p:=⟨w.heap.size,1,none⟩) hsV).trans HCV.out))
   (first
   |(go_at_call 105
     refine(TC.out _ V.heap.size ((HBV.out.alloc HBV.out.size _).drew) (qBc V _ _)).mono ?_;rintro e w4 ⟨v4,rfl,hown4,hb4⟩;refine qAE ?_;intro HO4 HB4 SS4;clear hown4 hb4))
  go_wp2_with fail
  go_ret2;refine⟨HBV.out.trans (HB4.out.mono HBV.out.size),.inr ⟨_,v4,HVX.out,rfl,?_⟩⟩;refine⟨HO4.out.1,?_⟩;rcases HO4.out.2 with h|⟨g',cap,cur,e,hb2,rest⟩
  · exact .inl h
  · exact zY
theorem on_none (A B:Option Addr) (m c d:Nat) (ins outs ts:List Typ) (w:World) (hn:ins.length=0) (hm:outs.length=m) (hk:ts.length=0) (sn:Sq typL (·<w.heap.size) w A ins) (sm:Sq typL (·<w.heap.size) w B outs) (sk:Sq typL (·<w.heap.size) w none ts)
 (bm:m≤1000) (bd:m≤d) (bd2:d≤9223372036854775807):Calls Tryz.prog 70 #[.agg #[.slice A 0 c,.slice B m d],.slice none 0 0] w (Moved (movB ts ins outs) w):=by
 obtain rfl:ins=[]:=qA4 hn;obtain rfl:ts=[]:=qA4 hk;have HM:=qAg hm;have SM:=qAg sm;refine ji ?_;intro HB0;clear hn hm hk sn sm sk;have TE2:Hid (∀w1 c',Below w.heap.size w w1→Calls Tryz.prog 103 #[.slice none 0 c',.slice A 0 c,.func (.func 104) #[] #[]] w1 fun e w'=>e= .returned (.bool true)∧Below w1.heap.size w1 w'):=fun w1 c' hb1=>
  qB3 none A 0 0 c' c [] [] w1 rfl rfl (Sq.nil _ _ _ _) (Sq.nil _ _ _ _) (by omega) (by omega)
 have TC:Hid (∀w1 G,Below w.heap.size w w1→Blk w1 G 39 #[.slice none 0 0,.slice B m d]→Calls Tryz.prog 105 #[.slice (some ⟨G,0,none⟩) 2 2] w1 fun e w'=>∃v,e= .returned v∧w'.ownsRow w1.heap.size 41 2 v outs.length (T2 outs)∧Below w1.heap.size w1 w'):=fun w1 G hb1 hblk=>by
  have r0:tysL.R (·<w1.heap.size) w1 [.slice none 0 0] []:=qCn _ _ _;have r1:tysL.R (·<w1.heap.size) w1 [.slice B m d] outs:=⟨B,d,by rw[HM.out],by rw[HM.out];exact bd,by unfold maxLen;omega,(SM.out.below hb1 (qAi _)).wide fun i hi=>qAh hi hb1.size⟩;obtain⟨A9,c9,e9,-,-,hsq⟩:=qGM (L:=tysL) hblk hblk.lt rfl r0 r1;simp only[List.cons.injEq,Value.slice.injEq,and_true] at e9;obtain⟨rfl,-,-⟩:=e9;have:=qCp (some ⟨G,0,none⟩) 2 2 [[],outs] w1 rfl hsq (by simp only[List.flatten_cons,List.flatten_nil,List.append_nil,List.nil_append,HM.out];omega) (by omega);simpa using this
 have HC:Hid (∀w1,Below (w.heap.size+1) (w.alloc (.cells #[.slice A 0 c,.slice B m d] 123)) w1→w1.cell? ⟨w.heap.size,0,none⟩=some (.slice A 0 c)∧w1.cell? ⟨w.heap.size,1,none⟩=some (.slice B m d)):=fun w1 hb1=>⟨(hb1.cell (p:=⟨w.heap.size,0,none⟩) (by simp)).trans zT,(hb1.cell (p:=⟨w.heap.size,1,none⟩) (by simp)).trans zT⟩;have HV1:Hid (8<m→movB [] [] outs=none):=fun h=>qDB (b:=0) rfl (by rw[HM.out];omega);have HV2:Hid (m≤8→movB [] [] outs=some outs):=fun h2=>qD4 (s:=[]) (b:=0) rfl (qAi _) rfl (by rw[HM.out];omega)
 by_cases h8:8<m
 all_goals
  have hw1:IntKind.i64.wrap (m:Int)=(m:Int):=by rw[qAv];omega
  have h8i:decide ((8:Int)<(m:Int))=decide (8<m):=by rw[decide_eq_decide];omega
  try rw[decide_eq_true h8] at h8i
  try rw[decide_eq_false h8] at h8i
  go_enter Tryz.func70,Tryz.ntmps70
  go_wp2_with fail
  refine qAs fun U hU=> ?_;have HBU:Hid (Below w.heap.size w U):=by show Below _ _ _;rw[hU];exact HB0.out _
  have HCU:Hid (U.cell? ⟨w.heap.size,0,none⟩=some (.slice A 0 c)∧U.cell? ⟨w.heap.size,1,none⟩=some (.slice B m d)):=by show _∧_;rw[hU];exact HC.out _ (qAk _ _)
  have hsU:w.heap.size<U.heap.size:=by rw[hU];simp
  clear hU;refine jk ?_;intro HBR;have x0:=cell_regrown HCU.out.1;have x1:=cell_regrown HCU.out.2;refine wp_region_quiet_below qV qV ?_
  repeat(quiet_step (first|with_reducible exact Calls.regrown_of (TE2.out _ _ (HBR.out _ _))))
  refine wpQuiet_nil ?_;intro _ hw';obtain⟨⟨dq,osq⟩,hw''⟩:=hw';subst hw'';refine j6 ?_;intro HB1 HS1
  go_wp2_with fail
  first
  |(go_ret2
    exact⟨HB1.out,.inl ⟨by first|exact HV1.out h8,rfl⟩⟩)
  |skip
 all_goals
  refine qAs fun V hV=> ?_;refine je ?_;intro HBV HCV hsV;have HVX:=qAg (HV2.out (by omega));clear hV x0 x1
  go_region_held3 (fun w'=>w'.cell? ⟨w.heap.size,1,none⟩=some (.slice B m d))
   (first|exact HCV.out|exact SS4.out|exact(((qAo V _).cell (p:=⟨w.heap.size,1,none⟩) hsV).trans HCV.out)|exact(((qAo V _).drew.cell (p:=⟨w.heap.size,1,none⟩) hsV).trans HCV.out))
   (first
   |(go_at_call 105
     refine(TC.out _ V.heap.size ((HBV.out.alloc HBV.out.size _).drew) (qBc V _ _)).mono ?_;rintro e w4 ⟨v4,rfl,hown4,hb4⟩;refine qAE ?_;intro HO4 HB4 SS4;clear hown4 hb4))
  go_wp2_with fail
  go_ret2;refine⟨HBV.out.trans (HB4.out.mono HBV.out.size),.inr ⟨_,v4,HVX.out,rfl,?_⟩⟩;refine⟨HO4.out.1,?_⟩;rcases HO4.out.2 with h|⟨g',cap,cur,e,hb2,rest⟩
  · exact .inl h
  · exact zY
theorem on_any (A B D:Option Addr) (n m k c d g:Nat) (ins outs ts:List Typ) (w:World) (hn:ins.length=n) (hm:outs.length=m) (hk:ts.length=k) (sn:Sq typL (·<w.heap.size) w A ins) (sm:Sq typL (·<w.heap.size) w B outs) (sk:Sq typL (·<w.heap.size) w D ts)
 (bn:n≤1000) (bm:m≤1000) (bk:k≤1000) (bg:k≤g) (bg2:g≤9223372036854775807) (bd:m≤d) (bd2:d≤9223372036854775807) (hnil:D=none→g=0):Calls Tryz.prog 70 #[.agg #[.slice A n c,.slice B m d],.slice D k g] w (Moved (movB ts ins outs) w):=by
 by_cases hlt:k<n
 · exact on_few A B D n m k c d g ins outs ts w hn hm hk sn sm sk hlt bn bm bk bg bg2 bd bd2
 · cases D with
   |none=>
    obtain rfl:=hnil rfl;obtain rfl:k=0:=by omega
    obtain rfl:n=0:=by omega
    exact on_none A B m c d ins outs ts w hn hm hk sn sm sk bm bd bd2
   |some a=>
    by_cases hg:g=k-n
    · exact on_full A B a n m k c d g ins outs ts w hn hm hk sn sm sk hlt hg bn bm bk bg bg2 bd bd2
    · exact on_far A B a n m k c d g ins outs ts w hn hm hk sn sm sk hlt hg bn bm bk bg bg2 bd bd2
def Flows (r:Int×List Typ×List Int) (w:World) (e:Ending) (w':World):Prop:=
 Below w.heap.size w w'∧∃v u,e= .returned (.tuple #[v,u,.int .i64 r.1])∧w'.ownsRow w.heap.size 41 2 v r.2.1.length (T2 r.2.1)∧w'.ownsRow w.heap.size 3 1 u r.2.2.length (Is r.2.2)∧(∀b,v.ownBlock=some b→u.ownBlock≠some b)∧A64 r.2.1
theorem qFX {b' ty k n:Nat} {v:Value} {xs:List Value} (h:w.ownsRow b ty k v n xs) (hb:b'≤b):w.ownsRow b' ty k v n xs:=by
 refine⟨h.1,?_⟩;rcases h.2 with h|⟨g',cap,cur,e,hb2,rest⟩
 · exact .inl h
 · exact .inr ⟨g',cap,cur,e,qA8 hb hb2,rest⟩
theorem qEC {er:Int} {t:List Typ} {l:List Int} {w':World} {e:Ending} (h:Flows (er,t,l) w e w'):Below w.heap.size w w'∧∃v u,e= .returned (.tuple #[v,u,.int .i64 er])∧w'.ownsRow w.heap.size 41 2 v t.length (T2 t)∧w'.ownsRow w.heap.size 3 1 u l.length (Is l)∧A64 t:=by
 obtain⟨h1,v,u,h2,h3,h4,-,h5⟩:=h;exact⟨h1,v,u,h2,h3,h4,h5⟩
theorem qBw {er:Int} {w':World} (h:Below w.heap.size w w'):Flows (er,[],[]) w (.returned (.tuple #[.slice none 0 0,.slice none 0 0,.int .i64 er])) w':=
 ⟨h,_,_,rfl,⟨rfl,.inl ⟨rfl,rfl⟩⟩,⟨rfl,.inl ⟨rfl,rfl⟩⟩,(fun b hb=>by cases hb),A64.nil⟩
theorem qIG {fi:Int} (h:checkN x≠0):flowB x fi pc ts=(1,[],[]):=by simp[flowB,h]
theorem qG0 {fi:Int} (h:hasB x.funcs.length fi=false):flowB x fi pc ts=(1,[],[]):=by
 simp[hasB] at h;unfold flowB;split
 · rfl
 · rename_i hc
   rw[List.getElem?_eq_none (by omega)]
theorem qGz {j:Nat} (hf:x.funcs[j]? =some fn) (h:hasB fn.code.length pc=false):flowB x (j:Int) pc ts=(1,[],[]):=by
 simp[hasB] at h;unfold flowB;split
 · rfl
 · rename_i hc
   simp only[Int.toNat_natCast,hf];rw[List.getElem?_eq_none (by omega)]
theorem qEE {j p:Nat} (hc:checkN x=0) (hf:x.funcs[j]? =some fn) (hp:fn.code[p]? =some i):flowB x (j:Int) (p:Int) ts=insB8 x fn i p ts:=by
 simp[flowB,hc,hf,hp]
 omega
theorem qJb (cs:List Value) (x:Mod) (fi pc:Int) (D:Option Addr) (k g:Nat) (ts:List Typ) (w:World) (h:modL.R (·<w.heap.size) w cs x) (hc:checkN x≠0):Calls Tryz.prog 46 #[vAgg cs,.int .i64 fi,.int .i64 pc,.slice D k g] w (Flows (flowB x fi pc ts) w):=by
 refine jO ?_;intro TE;obtain⟨_,_,_,_,_,rfl,⟨A0,d0,e0,l0,m0,s0⟩,⟨A1,d1,e1,l1,m1,s1⟩,⟨A2,d2,e2,l2,m2,s2⟩,⟨A3,d3,e3,-⟩,⟨A4,d4,e4,-⟩⟩:=h;simp only[List.cons.injEq,and_true] at e0 e1 e2 e3 e4;subst e0 e1 e2 e3 e4;refine z9 ?_;intro n0 h0 n1 h1 n2 h2;rw[h0,h1,h2] at TE⊢;generalize x.ints.length=n3 at*;generalize x.texts.length=n4 at*;refine jK ?_;intro TE2;clear TE
 show Calls Tryz.prog 46 #[.agg #[.slice A0 n0 d0,.slice A1 n1 d1,.slice A2 n2 d2,.slice A3 n3 d3,.slice A4 n4 d4],.int .i64 fi,.int .i64 pc,.slice D k g] w (Flows (flowB x fi pc ts) w)
 refine ji ?_;intro HB0;refine zy ?_;intro HC0;rw[qIG hc];have b:(checkN x != 0)=true:=by simpa using hc
 generalize checkN x=cn at*;clear hc s0 s1 s2 h0 h1 h2 l0 l1 l2 m0 m1 m2
 go_enter Tryz.func46,Tryz.ntmps46
 go_wp2_with (first
  |(go_at_call 22
    refine(TE2.out _ (HB0.out _)).mono ?_;rintro e w1 ⟨rfl,hb1⟩;refine jR ?_;intro HB1 x0 x1 x2 x3 x4;have hs1:w.heap.size<w1.heap.size:=qR;clear hb1))
 go_ret3
 exact qBw HB1.out
theorem qIF (cs:List Value) (x:Mod) (fi pc:Int) (D:Option Addr) (k g:Nat) (ts:List Typ) (w:World) (h:modL.R (·<w.heap.size) w cs x) (hc:checkN x=0) (hf:hasB x.funcs.length fi=false):Calls Tryz.prog 46 #[vAgg cs,.int .i64 fi,.int .i64 pc,.slice D k g] w (Flows (flowB x fi pc ts) w):=by
 refine jO ?_;intro TE;obtain⟨_,_,_,_,_,rfl,⟨A0,d0,e0,l0,m0,s0⟩,⟨A1,d1,e1,l1,m1,s1⟩,⟨A2,d2,e2,l2,m2,s2⟩,⟨A3,d3,e3,-⟩,⟨A4,d4,e4,-⟩⟩:=h;simp only[List.cons.injEq,and_true] at e0 e1 e2 e3 e4;subst e0 e1 e2 e3 e4;refine z9 ?_;intro n0 h0 n1 h1 n2 h2;rw[h0,h1,h2] at TE⊢;generalize x.ints.length=n3 at*;generalize x.texts.length=n4 at*;refine jK ?_;intro TE2;clear TE
 show Calls Tryz.prog 46 #[.agg #[.slice A0 n0 d0,.slice A1 n1 d1,.slice A2 n2 d2,.slice A3 n3 d3,.slice A4 n4 d4],.int .i64 fi,.int .i64 pc,.slice D k g] w (Flows (flowB x fi pc ts) w)
 refine ji ?_;intro HB0;refine zy ?_;intro HC0;rw[qG0 hf];rw[hc] at TE2;have HF:=qAg (fun v=>qEA A1 n1 d1 fi v);rw[h1] at hf;rw[hf] at HF;clear hc hf s0 s1 s2 h0 h1 h2 l0 l1 l2 m0 m1 m2
 go_enter Tryz.func46,Tryz.ntmps46
 go_wp2_with (first
  |(go_at_call 22
    refine(TE2.out _ (HB0.out _)).mono ?_;rintro e w1 ⟨rfl,hb1⟩;refine jR ?_;intro HB1 x0 x1 x2 x3 x4;have hs1:w.heap.size<w1.heap.size:=qR;clear hb1)
  |(go_at_call 67
    refine(HF.out _).mono ?_;rintro e w2 ⟨rfl,rfl⟩))
 go_ret3
 exact qBw HB1.out
theorem qIE (cs:List Value) (x:Mod) (j:Nat) (pc:Int) (D:Option Addr) (k g:Nat) (ts:List Typ) (w:World) (h:modL.R (·<w.heap.size) w cs x) (fn:Fn) (hc:checkN x=0) (hfn:x.funcs[j]? =some fn) (hp:hasB fn.code.length pc=false):Calls Tryz.prog 46 #[vAgg cs,.int .i64 (j:Int),.int .i64 pc,.slice D k g] w (Flows (flowB x (j:Int) pc ts) w):=by
 refine jO ?_;intro TE;obtain⟨_,_,_,_,_,rfl,⟨A0,d0,e0,l0,m0,s0⟩,⟨A1,d1,e1,l1,m1,s1⟩,⟨A2,d2,e2,l2,m2,s2⟩,⟨A3,d3,e3,-⟩,⟨A4,d4,e4,-⟩⟩:=h;simp only[List.cons.injEq,and_true] at e0 e1 e2 e3 e4;subst e0 e1 e2 e3 e4;refine z9 ?_;intro n0 h0 n1 h1 n2 h2;rw[h0,h1,h2] at TE⊢;generalize x.ints.length=n3 at*;generalize x.texts.length=n4 at*;refine jK ?_;intro TE2;clear TE
 show Calls Tryz.prog 46 #[.agg #[.slice A0 n0 d0,.slice A1 n1 d1,.slice A2 n2 d2,.slice A3 n3 d3,.slice A4 n4 d4],.int .i64 (j:Int),.int .i64 pc,.slice D k g] w (Flows (flowB x (j:Int) pc ts) w)
 refine ji ?_;intro HB0;refine zy ?_;intro HC0;rw[qGz hfn hp];obtain⟨a,ccs,ea,hab,hcl,hR⟩:=s1.at hfn;subst ea;obtain⟨p0,p1,p2,rfl,hr1,hr2,⟨P0,c0,e4,f0,f1,t0⟩,⟨P1,c1,e5,f2,f3,t1⟩,⟨P2,c2,e6,f4,f5,t2⟩⟩:=hR;simp only[List.cons.injEq,and_true] at e4 e5 e6;subst e4 e5 e6;have HCL:Hid (∀v,Below w.heap.size w v→v.cell? (a.add (j*5))=some (.slice P0 fn.args.length c0)∧v.cell? ⟨(a.add (j*5)).block,(a.add (j*5)).off+1,none⟩=some (.int .i64 fn.ret.1)∧v.cell? ⟨(a.add (j*5)).block,(a.add (j*5)).off+2,none⟩=some (.int .i64 fn.ret.2)∧v.cell? ⟨(a.add (j*5)).block,(a.add (j*5)).off+3,none⟩=some (.slice P1 fn.locs.length c1)∧v.cell? ⟨(a.add (j*5)).block,(a.add (j*5)).off+4,none⟩=some (.slice P2 fn.code.length c2)):=fun v hb=>by
  refine zz ?_;intro k0 k1 k2 k3 k4;rw[qAm a (j*5) 1 (by omega)] at k1;rw[qAm a (j*5) 2 (by omega)] at k2;rw[qAm a (j*5) 3 (by omega)] at k3;rw[qAm a (j*5) 4 (by omega)] at k4;exact⟨k0,k1,k2,k3,k4⟩
 refine jo ?_;intro hjn;have hn8:n1≤8:=by have:=(qA1.1 (qAw hc)).f8;omega
 rw[hc] at TE2;have HF:=qAg (fun v=>qEA (some a) n1 d1 (j:Int) v);rw[show hasB n1 (j:Int)=true by simp[hasB];omega] at HF;have HI:=qAg (fun v=>qF2 P2 fn.code.length c2 pc v);rw[hp] at HI;clear hc hp hcl s0 s1 s2 h0 h1 h2 l0 l1 l2 m0 m1 m2 t0 t1 t2 f0 f1 f2 f3 f4 f5;generalize fn.args.length=ua at*;generalize fn.locs.length=ul at*;generalize fn.code.length=uc at*
 go_enter Tryz.func46,Tryz.ntmps46
 go_wp2_with (first
  |(go_at_call 22
    refine(TE2.out _ (HB0.out _)).mono ?_;rintro e w1 ⟨rfl,hb1⟩;refine jR ?_;intro HB1 x0 x1 x2 x3 x4;have hs1:w.heap.size<w1.heap.size:=qR;obtain⟨y0,y1,y2,y3,y4⟩:=HCL.out _ HB1.out;clear hb1)
  |(go_at_call 67
    refine(HF.out _).mono ?_;rintro e w2 ⟨rfl,rfl⟩)
  |(go_at_call 68
    refine(HI.out _).mono ?_;rintro e w2 ⟨rfl,rfl⟩))
 go_ret3
 exact qBw HB1.out
end Go.Proofs.YtelceoecekfamaaGreat
