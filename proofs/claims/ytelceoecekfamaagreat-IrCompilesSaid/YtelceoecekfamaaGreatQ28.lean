/-
Rfy Rkj Rty
-/
import Derived.Test.YtelceoecekfamaaGreatQ02
import Derived.Test.YtelceoecekfamaaGreatQ24
import Derived.Test.YtelceoecekfamaaGreatQ25
import Derived.Test.YtelceoecekfamaaGreatQ26
import Derived.Test.YtelceoecekfamaaGreatQ27
import Derived.BigQuiet
import Derived.Laws.Strings
set_option linter.unusedSimpArgs false
set_option linter.unusedVariables false
set_option maxRecDepth 100000
set_option maxHeartbeats 1000000
namespace Go.Proofs.YtelceoecekfamaaGreat
open Go.RowKit
theorem zX {P:Prop} (h:P:=by
 go_wp2_with fail
 go_quiet (fail)
 go_wp2_with fail
 go_ret;exact⟨by rw[qG2 (get_ne HX.out HY.out HXY.out)];rfl,_,World.drewN_drewN _ _ _⟩):P:=h
theorem qI0 (RU:RuleAny) (cs:List Value) (x:Mod) (j p:Nat) (D:Option Addr) (k g:Nat) (ts:List Typ) (w:World) (h:modL.R (·<w.heap.size) w cs x) (fn:Fn) (o ia ib:Int) (hc:checkN x=0) (hfn:x.funcs[j]? =some fn) (hin:fn.code[p]? =some (o,ia,ib)) (hk:ts.length=k) (sk:Sq typL (·<w.heap.size) w D ts) (bk:k≤1000) (bg:k≤g) (bg2:g≤9223372036854775807) (hnil:D=none→g=0):Calls Tryz.prog 17 #[vAgg cs,.int .i64 (j:Int),.int .i64 (p:Int),.slice D k g] w (RFlows (insB8 x fn (o,ia,ib) p ts) w):=by
 cases hrb:ruleB x fn (o,ia,ib) ts with
 |none=>exact qGb RU cs x j p D k g ts w h fn o ia ib hc hfn hin hk sk bk bg bg2 hrb
 |some io=>
  obtain⟨ins,outs⟩:=io
  by_cases h1:k<ins.length
  · exact qHo RU cs x j p D k g ts w h fn o ia ib hc hfn hin hk sk bk bg bg2 ins outs hrb h1
  by_cases h2:8<k-ins.length+outs.length
  · exact qGc RU cs x j p D k g ts w h fn o ia ib hc hfn hin hk sk bk bg bg2 ins outs hrb (by omega) h2
  cases D with
  |none=>exact qHn RU cs x j p k g ts w h fn o ia ib hc hfn hin hk sk bk bg bg2 (hnil rfl) ins outs hrb (by omega) (by omega)
  |some aD=>exact qGd RU cs x j p aD k g ts w h fn o ia ib hc hfn hin hk sk bk bg bg2 ins outs hrb (by omega) (by omega)
theorem rjoin2 (a b c d:Int) (w:World):Calls Tryz.prog 18 #[.agg #[.int .i64 a,.int .i64 b],.agg #[.int .i64 c,.int .i64 d]] w fun e w'=>e= .returned (.agg #[.int .i64 (joinK a b c d),.int .i64 (joinN a b c d)])∧Below w.heap.size w w':=by
 have S1:=qAg (fun w=>rsub a b c d w);have S2:=qAg (fun w=>rsub c d a b w);have R1:=qAg (fun w=>rref a b w);have R2:=qAg (fun w=>rref c d w)
 cases h1:subB a b c d
 · cases h2:subB c d a b
   · cases h3:refB a
     · rw[show joinK a b c d=8 by simp[joinK,h1,h2,h3],show joinN a b c d=0 by simp[joinN,h1,h2]]
       replace S1:=qAg qn;replace S2:=qAg qw;replace R1:=qAg zC;clear h1 h2 h3
       go_enter Tryz.func18,Tryz.ntmps18
       go_wp2_with (first|(go_at_call 33;with_reducible refine(S1.out _).mono ?_;rintro e w1 ⟨rfl,hb1⟩;obtain⟨hc1,hf1⟩:=qBB hb1;have hz1:w.heap.size+2<w1.heap.size:=by {have:=hb1.size;simp at this;omega};have hy1:w.heap.size+1<w1.heap.size:=(by omega);have hx1:w.heap.size<w1.heap.size:=by omega)|(go_at_call 33;with_reducible refine(S2.out _).mono ?_;rintro e w2 ⟨rfl,hb2⟩;obtain⟨hc2,hf2⟩:=qBB hb2;have hz2:w.heap.size+2<w2.heap.size:=by {have:=hb2.size;omega};have hy2:w.heap.size+1<w2.heap.size:=(by omega);have hx2:w.heap.size<w2.heap.size:=by omega)|(go_at_call 34;with_reducible refine(R1.out _).mono ?_;rintro e w3 ⟨rfl,hb3⟩;obtain⟨hc3,hf3⟩:=qBB hb3;have hz3:w.heap.size+2<w3.heap.size:=by {have:=hb3.size;omega};have hy3:w.heap.size+1<w3.heap.size:=(by omega);have hx3:w.heap.size<w3.heap.size:=by omega))
       exact bodyPost_ret (v:= .agg #[.int .i64 8,.int .i64 0]) (by simp[results,Tryz.results18,go_sem,hc1,hz1,hy1,hx1,hc2,hz2,hy2,hx2,hc3,hz3,hy3,hx3]) rfl ⟨rfl,((((((((qAk _ _).alloc (qAi _) _).alloc (by simp) _).alloc qc _).trans (hb1.mono qK)).trans (hb2.mono (by omega))).trans (hb3.mono (by omega))).setCell qc _).setCell qc _⟩
     · cases h4:refB c
       · rw[show joinK a b c d=8 by simp[joinK,h1,h2,h4],show joinN a b c d=0 by simp[joinN,h1,h2]]
         replace S1:=qAg qn;replace S2:=qAg qw;replace R1:=qAg zC;replace R2:=qAg zk;clear h1 h2 h3 h4
         go_enter Tryz.func18,Tryz.ntmps18
         go_wp2_with (first|(go_at_call 33;with_reducible refine(S1.out _).mono ?_;rintro e w1 ⟨rfl,hb1⟩;obtain⟨hc1,hf1⟩:=qBB hb1;have hz1:w.heap.size+2<w1.heap.size:=by {have:=hb1.size;simp at this;omega};have hy1:w.heap.size+1<w1.heap.size:=(by omega);have hx1:w.heap.size<w1.heap.size:=by omega)|(go_at_call 33;with_reducible refine(S2.out _).mono ?_;rintro e w2 ⟨rfl,hb2⟩;obtain⟨hc2,hf2⟩:=qBB hb2;have hz2:w.heap.size+2<w2.heap.size:=by {have:=hb2.size;omega};have hy2:w.heap.size+1<w2.heap.size:=(by omega);have hx2:w.heap.size<w2.heap.size:=by omega)|(go_at_call 34;with_reducible refine(R1.out _).mono ?_;rintro e w3 ⟨rfl,hb3⟩;obtain⟨hc3,hf3⟩:=qBB hb3;have hz3:w.heap.size+2<w3.heap.size:=by {have:=hb3.size;omega};have hy3:w.heap.size+1<w3.heap.size:=(by omega);have hx3:w.heap.size<w3.heap.size:=by omega)|(go_at_call 34;with_reducible refine(R2.out _).mono ?_;rintro e w4 ⟨rfl,hb4⟩;obtain⟨hc4,hf4⟩:=qBB hb4;have hz4:w.heap.size+2<w4.heap.size:=by {have:=hb4.size;omega};have hy4:w.heap.size+1<w4.heap.size:=(by omega);have hx4:w.heap.size<w4.heap.size:=by omega))
         exact bodyPost_ret (v:= .agg #[.int .i64 8,.int .i64 0]) (by simp[results,Tryz.results18,go_sem,hc1,hz1,hy1,hx1,hc2,hz2,hy2,hx2,hc3,hz3,hy3,hx3,hc4,hz4,hy4,hx4]) rfl ⟨rfl,(((((((((qAk _ _).alloc (qAi _) _).alloc (by simp) _).alloc qc _).trans (hb1.mono qK)).trans (hb2.mono (by omega))).trans (hb3.mono (by omega))).trans (hb4.mono (by omega))).setCell qc _).setCell qc _⟩
       · rw[show joinK a b c d=7 by simp[joinK,h1,h2,h3,h4],show joinN a b c d=0 by simp[joinN,h1,h2]]
         replace S1:=qAg qn;replace S2:=qAg qw;replace R1:=qAg zC;replace R2:=qAg zk;clear h1 h2 h3 h4
         go_enter Tryz.func18,Tryz.ntmps18
         go_wp2_with (first|(go_at_call 33;with_reducible refine(S1.out _).mono ?_;rintro e w1 ⟨rfl,hb1⟩;obtain⟨hc1,hf1⟩:=qBB hb1;have hz1:w.heap.size+2<w1.heap.size:=by {have:=hb1.size;simp at this;omega};have hy1:w.heap.size+1<w1.heap.size:=(by omega);have hx1:w.heap.size<w1.heap.size:=by omega)|(go_at_call 33;with_reducible refine(S2.out _).mono ?_;rintro e w2 ⟨rfl,hb2⟩;obtain⟨hc2,hf2⟩:=qBB hb2;have hz2:w.heap.size+2<w2.heap.size:=by {have:=hb2.size;omega};have hy2:w.heap.size+1<w2.heap.size:=(by omega);have hx2:w.heap.size<w2.heap.size:=by omega)|(go_at_call 34;with_reducible refine(R1.out _).mono ?_;rintro e w3 ⟨rfl,hb3⟩;obtain⟨hc3,hf3⟩:=qBB hb3;have hz3:w.heap.size+2<w3.heap.size:=by {have:=hb3.size;omega};have hy3:w.heap.size+1<w3.heap.size:=(by omega);have hx3:w.heap.size<w3.heap.size:=by omega)|(go_at_call 34;with_reducible refine(R2.out _).mono ?_;rintro e w4 ⟨rfl,hb4⟩;obtain⟨hc4,hf4⟩:=qBB hb4;have hz4:w.heap.size+2<w4.heap.size:=by {have:=hb4.size;omega};have hy4:w.heap.size+1<w4.heap.size:=(by omega);have hx4:w.heap.size<w4.heap.size:=by omega))
         exact bodyPost_ret (v:= .agg #[.int .i64 7,.int .i64 0]) (by simp[results,Tryz.results18,go_sem,hc1,hz1,hy1,hx1,hc2,hz2,hy2,hx2,hc3,hz3,hy3,hx3,hc4,hz4,hy4,hx4]) rfl ⟨rfl,(((((((((qAk _ _).alloc (qAi _) _).alloc (by simp) _).alloc qc _).trans (hb1.mono qK)).trans (hb2.mono (by omega))).trans (hb3.mono (by omega))).trans (hb4.mono (by omega))).setCell qc _).setCell qc _⟩
   · rw[show joinK a b c d=a by simp[joinK,h1,h2],show joinN a b c d=b by simp[joinN,h1,h2]]
     replace S1:=qAg qn;replace S2:=qAg qw;clear h1 h2
     go_enter Tryz.func18,Tryz.ntmps18
     go_wp2_with (first|(go_at_call 33;with_reducible refine(S1.out _).mono ?_;rintro e w1 ⟨rfl,hb1⟩;obtain⟨hc1,hf1⟩:=qBB hb1;have hz1:w.heap.size+2<w1.heap.size:=by {have:=hb1.size;simp at this;omega};have hy1:w.heap.size+1<w1.heap.size:=(by omega);have hx1:w.heap.size<w1.heap.size:=by omega)|(go_at_call 33;with_reducible refine(S2.out _).mono ?_;rintro e w2 ⟨rfl,hb2⟩;obtain⟨hc2,hf2⟩:=qBB hb2;have hz2:w.heap.size+2<w2.heap.size:=by {have:=hb2.size;omega};have hy2:w.heap.size+1<w2.heap.size:=(by omega);have hx2:w.heap.size<w2.heap.size:=by omega))
     exact bodyPost_ret (v:= .agg #[.int .i64 a,.int .i64 b]) (by simp[results,Tryz.results18,go_sem,hc1,hz1,hy1,hx1,hc2,hz2,hy2,hx2]) rfl ⟨rfl,(((((((qAk _ _).alloc (qAi _) _).alloc (by simp) _).alloc qc _).trans (hb1.mono qK)).trans (hb2.mono (by omega))).setCell qc _).setCell qc _⟩
 · rw[show joinK a b c d=c by simp[joinK,h1],show joinN a b c d=d by simp[joinN,h1]]
   replace S1:=qAg qn;clear h1
   go_enter Tryz.func18,Tryz.ntmps18
   go_wp2_with (first|(go_at_call 33;with_reducible refine(S1.out _).mono ?_;rintro e w1 ⟨rfl,hb1⟩;obtain⟨hc1,hf1⟩:=qBB hb1;have hz1:w.heap.size+2<w1.heap.size:=by {have:=hb1.size;simp at this;omega};have hy1:w.heap.size+1<w1.heap.size:=(by omega);have hx1:w.heap.size<w1.heap.size:=by omega))
   exact bodyPost_ret (v:= .agg #[.int .i64 c,.int .i64 d]) (by simp[results,Tryz.results18,go_sem,hc1,hz1,hy1,hx1]) rfl ⟨rfl,((((((qAk _ _).alloc (qAi _) _).alloc (by simp) _).alloc qc _).trans (hb1.mono qK)).setCell qc _).setCell qc _⟩
theorem qE1 (A B:Option Addr) (n m c d:Nat) (xs ys:List Typ) (w:World) (S T:Nat→Prop) (hl:xs.length=n) (hm:ys.length=m) (h:Sq typL S w A xs) (h':Sq typL T w B ys) (hn2:n≤9223372036854775807) (hm2:m≤9223372036854775807):
 Calls Tryz.prog 19 #[.slice A n c,.slice B m d] w fun e w'=>e= .returned (.bool (eqB xs ys))∧∃q,w'=w.drewN q:=by
 have HL:=qAg hl;have HM:=qAg hm;have HS:=qAg h;have HT:=qAg h';clear hl hm h h'
 by_cases hnm:n=m
 · subst hnm
   go_enter Tryz.func19,Tryz.ntmps19
   go_wp2_with fail
   go_loopw [5] (fun i wr=>∃k q:Nat,k≤n∧i= .int .i64 (k:Nat)∧xs.take k=ys.take k∧wr=w.drewN q) (fun i _=>n-(intOf i).toNat)
   case atStart=>exact⟨0,0,qAq _,rfl,by simp,rfl⟩
   case round=>
    obtain⟨k,q,hk,rfl,heq,rfl⟩:=hrel;have HE:=qAg heq;clear heq
    by_cases hlt:k<n
    · skip
      refine jD ?_;intro x hx;obtain⟨y,hy⟩:∃y,ys[k]? =some y:=⟨ys[k]'(by rw[HM.out];exact hlt),List.getElem?_eq_getElem _⟩;obtain⟨a,cs,rfl,hab,hc,hr⟩:=HS.out.at hx;obtain⟨b,cs2,rfl,hbb,hc2,hr2⟩:=HT.out.at hy;have HX:=qAg hx;have HY:=qAg hy;clear hx hy;obtain⟨rfl,-,-⟩:=hr;obtain⟨rfl,-,-⟩:=hr2;have c0:=hc 0 _ rfl;rw[show k*typL.k+0=k*2 from rfl] at c0;have c1:=hc 1 _ rfl;rw[show k*typL.k+1=k*2+1 from rfl,qAm a (k*2) 1 (by omega)] at c1;have e0:=hc2 0 _ rfl;rw[show k*typL.k+0=k*2 from rfl] at e0;have e1:=hc2 1 _ rfl;rw[show k*typL.k+1=k*2+1 from rfl,qAm b (k*2) 1 (by omega)] at e1;clear hc hc2;have k0:0≤(k:Int):=by omega
      have k1:(k:Int)<(n:Int):=by omega
      by_cases hxy:x=y
      · have HXY:=qAg hxy
        subst hxy
        go_wp2_with fail
        go_quiet (fail)
        go_wp2_with fail
        refine⟨⟨k+1,_,by omega,by simp,qHf HE.out HX.out HY.out rfl,rfl⟩,by simp[intOf];omega⟩
      · have HXY:=qAg hxy
        by_cases g0:x.1=y.1
        · have b0:(x.1==y.1)=true:=by simpa using g0
          by_cases g1:x.2=y.2
          · exact absurd (Prod.ext g0 g1) HXY.out
          · have b1:(x.2==y.2)=false:=by simpa using g1
            clear g0 g1;exact zX
        · have b0:(x.1==y.1)=false:=by simpa using g0
          clear g0;exact zX
    · obtain rfl:k=n:=by omega
      go_wp2_with fail
      go_ret;refine⟨?_,_,rfl⟩;have e:=HE.out;rw[qAn qO,qAn (by rw[HM.out];exact qAi _)] at e;rw[e,qJj]
      rfl
 · have h1:((n:Int) != (m:Int))=true:=by simp;omega
   have h2:(n != m)=true:=by simpa using hnm
   have HNM:=qAg hnm;clear hnm
   go_enter Tryz.func19,Tryz.ntmps19
   go_wp2_with fail
   go_ret;refine⟨?_,0,rfl⟩;rw[qG2 (fun e=>HNM.out (by rw[←HL.out,←HM.out,e]))]
   rfl
end Go.Proofs.YtelceoecekfamaaGreat
