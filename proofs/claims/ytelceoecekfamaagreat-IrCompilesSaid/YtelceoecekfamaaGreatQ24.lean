/-
Rkn Rfw
-/
import Derived.Test.YtelceoecekfamaaGreatQ11
import Derived.Test.YtelceoecekfamaaGreatQ12
import Derived.Test.YtelceoecekfamaaGreatQ23
import Derived.OwnWalk
set_option linter.unusedSimpArgs false
set_option linter.unusedVariables false
set_option maxHeartbeats 1000000
namespace Go.Proofs.YtelceoecekfamaaGreat
open Go.RowKit
variable {N:Nat}{f:Fn}{i:Ins}{ins:List Typ}{n:Nat}{outs:List Typ}{p:Nat}{r:Int×List Typ×List Int}{s t:List Typ}{w w':World}{x:Mod}
theorem qE {P:Prop} (h:P:=by
 go_enter Tryz.func33,Tryz.ntmps33
 go_wp2_with (first|(go_at_call 34;with_reducible refine(A0.out _).mono ?_;rintro e w1 ⟨rfl,hb1⟩;obtain⟨hc1,-⟩:=qBB hb1;have hz1:w.heap.size+1<w1.heap.size:=by {have:=hb1.size;simp at this;omega};have hz0:w.heap.size<w1.heap.size:=by omega)|(go_at_call 34;with_reducible refine(C0.out _).mono ?_;rintro e w2 ⟨rfl,hb2⟩;obtain⟨hc2,-⟩:=qBB hb2))
 go_ret;exact⟨rfl,((((qAk _ _).alloc (qAi _) _).alloc (by simp) _).trans (hb1.mono (by simp;omega))).trans (hb2.mono (by omega))⟩):P:=h
theorem qP {P:Prop} (h:P:=by
 have HN2:=qAg (N24.out h24 hlen);subst h24
 go_wp2_with fail
 go_region_held3 (fun v=>v.cell? ⟨w.heap.size+2,1,none⟩=some (.int .i64 ia))
  (first|exact HU1.out|exact HCI.out _ (qAk _ w6).drew|exact HCI.out _ (qAo w6 _)|exact HCI.out _ (qAo w6 _).drew)
  (fail)
 all_goals
  go_wp2_with fail
  go_ret3
  exact qCY (cs:= #[.int .i64 ((p:Int)+1),.int .i64 ia]) (HV2.out _ _ HM1.out HN2.out) HO6.out HA6.out HW6.out HWr.out.size (by first|exact(qAo w6 _).drew|exact qAo w6 _) (by(repeat(first|((with_reducible refine qA9 ?_);simp;done)|with_reducible refine qBG ?_|with_reducible refine qCy ?_))) (by have:=HW6.out.size;first|exact this|(simp;omega)) rfl rfl):P:=h
theorem qQ {P:Prop} (h:P:=by
 have HN2:=qAg (N23.out h23);subst h23
 go_wp2_with fail
 go_region_held3 (fun v=>v.cell? ⟨w.heap.size+2,1,none⟩=some (.int .i64 ia))
  (first|exact HU1.out|exact HCI.out _ (qAk _ w6).drew|exact HCI.out _ (qAo w6 _)|exact HCI.out _ (qAo w6 _).drew)
  (fail)
 all_goals
  go_wp2_with fail
  go_ret3
  exact qCY (cs:= #[.int .i64 ia]) (HV2.out _ _ HM1.out HN2.out) HO6.out HA6.out HW6.out HWr.out.size (by first|exact(qAo w6 _).drew|exact qAo w6 _) (by(repeat(first|((with_reducible refine qA9 ?_);simp;done)|with_reducible refine qBG ?_|with_reducible refine qCy ?_))) (by have:=HW6.out.size;first|exact this|(simp;omega)) rfl rfl):P:=h
theorem qh {P:Prop} (h:P:=by
 replace A0:=qAg qU;clear hra
 go_enter Tryz.func33,Tryz.ntmps33
 go_wp2_with (first|(go_at_call 34;with_reducible refine(A0.out _).mono ?_;rintro e w1 ⟨rfl,hb1⟩;obtain⟨hc1,-⟩:=qBB hb1;have hz1:w.heap.size+1<w1.heap.size:=by {have:=hb1.size;simp at this;omega};have hz0:w.heap.size<w1.heap.size:=by omega))
 go_ret;exact⟨rfl,(((qAk _ _).alloc (qAi _) _).alloc (by simp) _).trans (hb1.mono qK)⟩):P:=h
theorem zM {P:Prop} (h:P:=by
 have HN2:=qAg (NL.out h26 h23 hlen);have el:(uc:Int)≤(p:Int)+1:=by omega
 go_wp2_with fail
 go_ret3
 exact qBl (HV1.out _ HM1.out HN2.out) HW6.out):P:=h
theorem zU {P:Prop} (h:P:=by
 have HN2:=qAg (N26.out h26);subst h26
 go_wp2_with fail
 go_ret3
 exact qGa (HV2.out _ _ HM1.out HN2.out) HO6.out HA6.out HW6.out HWr.out.size):P:=h
theorem zV {P:Prop} (h:P:=by
 go_enter Tryz.func34,Tryz.ntmps34
 exact qC):P:=h
theorem jB {P Q:Prop} (q:Q) (h:Q→P:=by
 have HBU:Hid (Below w.heap.size w U):=by show Below _ _ _;rw[hU];exact qAo w _
 have HMU:Hid (C5 w.heap.size (.slice A0 n0 d0) (.slice (some a) n1 d1) (.slice A2 n2 d2) (.slice A3 n3 d3) (.slice A4 n4 d4) U):=by show C5 _ _ _ _ _ _ _;rw[hU];simp[C5,go_sem]
 have hsU:U.heap.size=w.heap.size+1:=by rw[hU];simp
 intro kz;revert HBU HMU hsU;exact kz):P:=h q
theorem rref (k n:Int) (w:World):Calls Tryz.prog 34 #[.agg #[.int .i64 k,.int .i64 n]] w fun e w'=>e= .returned (.bool (refB k))∧Below w.heap.size w w':=by
 by_cases h2:k=2
 · subst h2
   exact zV
 by_cases h3:k=3
 · subst h3
   exact zV
 by_cases h4:k=4
 · subst h4
   exact zV
 by_cases h6:k=6
 · subst h6
   exact zV
 by_cases h7:k=7
 · subst h7
   exact zV
 go_enter Tryz.func34,Tryz.ntmps34
 go_wp2_with fail
 go_ret;exact⟨rfl,(qAk _ _).alloc (qAi _) _⟩
theorem rsub (a b c d:Int) (w:World):Calls Tryz.prog 33 #[.agg #[.int .i64 a,.int .i64 b],.agg #[.int .i64 c,.int .i64 d]] w fun e w'=>e= .returned (.bool (subB a b c d))∧Below w.heap.size w w':=by
 have A0:=qAg (fun w=>rref a b w);have C0:=qAg (fun w=>rref c d w)
 by_cases h8:c=8
 · subst h8
   rw[show subB a b 8 d=true by simp[subB]]
   go_enter Tryz.func33,Tryz.ntmps33
   go_wp2_with fail
   all_goals(go_ret;exact⟨rfl,((qAk _ _).alloc (qAi _) _).alloc (by simp) _⟩)
 have e8:(c==8)=false:=by simpa using h8
 by_cases hac:a=c
 · subst hac
   by_cases hbd:b=d
   · subst hbd
     rw[show subB a b a b=true by simp[subB]]
     go_enter Tryz.func33,Tryz.ntmps33
     go_wp2_with fail
     exact zL
   have hne:(b==d)=false:=by simpa using hbd
   cases hra:refB a
   · rw[show subB a b a d=false by simp[subB,hra,hne,e8]]
     exact qh
   cases hrc:refB a
   · rw[show subB a b a d=false by simp[subB,hrc,hne,e8]]
     replace A0:=qAg qU;replace C0:=qAg qe;clear hra hrc;exact qE
   by_cases h6:a=6
   · rw[show subB a b a d=true by simp only[subB,hra,hrc];simp[h6]]
     replace A0:=qAg qU;replace C0:=qAg qe;clear hra hrc;have e6:(a==6)=true:=by simpa using h6
     clear h6;exact qE
   rw[show subB a b a d=(a==7) by simp[subB,hra,hrc,h6,hne,e8]];replace A0:=qAg qU;replace C0:=qAg qe;clear hra hrc;have e6:(a==6)=false:=by simpa using h6
   clear h6;exact qE
 have hne:(a==c)=false:=by simpa using hac
 cases hra:refB a
 · rw[show subB a b c d=false by simp[subB,hra,hne,e8]]
   exact qh
 cases hrc:refB c
 · rw[show subB a b c d=false by simp[subB,hrc,hne,e8]]
   replace A0:=qAg qU;replace C0:=qAg qe;clear hra hrc;exact qE
 by_cases h6:a=6
 · rw[show subB a b c d=true by simp only[subB,hra,hrc];simp[h6]]
   replace A0:=qAg qU;replace C0:=qAg qe;clear hra hrc;have e6:(a==6)=true:=by simpa using h6
   clear h6;exact qE
 rw[show subB a b c d=(c==7) by simp[subB,hra,hrc,h6,hne,e8]];replace A0:=qAg qU;replace C0:=qAg qe;clear hra hrc;have e6:(a==6)=false:=by simpa using h6
 clear h6
 go_enter Tryz.func33,Tryz.ntmps33
 go_wp2_with (first|(go_at_call 34;with_reducible refine(A0.out _).mono ?_;rintro e w1 ⟨rfl,hb1⟩;obtain⟨hc1,-⟩:=qBB hb1;have hz1:w.heap.size+1<w1.heap.size:=by {have:=hb1.size;simp at this;omega};have hz0:w.heap.size<w1.heap.size:=by omega)|(go_at_call 34;with_reducible refine(C0.out _).mono ?_;rintro e w2 ⟨rfl,hb2⟩;obtain⟨hc2,-⟩:=qBB hb2))
 go_ret;exact⟨rfl,((((qAk _ _).alloc (qAi _) _).alloc (by simp) _).trans (hb1.mono qK)).trans (hb2.mono (by omega))⟩
def RuleAny:Prop:=∀(A0 A1 A2 A3 A4 P0 P1 P2 D:Option Addr) (n0 n1 n2 n3 n4 d0 d1 d2 d3 d4 ua ul uc c0 c1 c2 k g:Nat) (x:Mod) (f:Fn) (ts:List Typ) (o ia ib:Int) (w:World),Cx w A0 A1 A2 A3 A4 P0 P1 P2 D n0 n1 n2 n3 n4 d0 d1 d2 d3 d4 ua ul uc c0 c1 c2 k g x f ts→goodI o ia ib=true→namedB x f (o,ia,ib)=true→k≤g→g≤9223372036854775807→Calls Tryz.prog 10 #[.agg #[.slice A0 n0 d0,.slice A1 n1 d1,.slice A2 n2 d2,.slice A3 n3 d3,.slice A4 n4 d4],.agg #[.slice P0 ua c0,.int .i64 f.ret.1,.int .i64 f.ret.2,.slice P1 ul c1,.slice P2 uc c2],.agg #[.int .i64 o,.int .i64 ia,.int .i64 ib],.slice D k g] w (Ruled (ruleB x f (o,ia,ib) ts) w)
def RFlows (r:Int×List Typ×List Int) (w:World) (e:Ending) (w':World):Prop:=
 Below w.heap.size w w'∧∃A c B d,e= .returned (.tuple #[.slice A r.2.1.length c,.slice B r.2.2.length d,.int .i64 r.1])∧tysL.R (·<w'.heap.size) w' [.slice A r.2.1.length c] r.2.1∧(∀j x,r.2.2[j]? =some x→∃a,B=some a∧a.block<w'.heap.size∧w'.cell? (a.add j)=some (.int .i64 x))∧(A=none→c=0)∧(∀a,A=some a→w.heap.size≤a.block)∧∀a,B=some a→w.heap.size≤a.block
theorem qBl {er:Int} (hr:r=(er,[],[])) (h:Below w.heap.size w w'):RFlows r w (.returned (.tuple #[.slice none 0 0,.slice none 0 0,.int .i64 er])) w':=by
 subst hr;exact⟨h,none,0,none,0,rfl,qCn _ _ _,fun j x hx=>(by simp at hx),fun _=>rfl,fun a h=>(by cases h),fun a h=>(by cases h)⟩
theorem qGV {e:Ending} (h:Ruled none w e w'):e= .returned (.tuple #[.slice none 0 0,.slice none 0 0,.bool false])∧Below w.heap.size w w':=by
 obtain⟨hb,⟨-,he⟩|⟨_,_,_,_,_,_,_,_,hn,-⟩⟩:=h
 · exact⟨he,hb⟩
 · cases hn
theorem qBv {e:Ending} (h:Ruled (some (ins,outs)) w e w'):Below w.heap.size w w'∧∃A c B d,e= .returned (.tuple #[.slice A ins.length c,.slice B outs.length d,.bool true])∧Sq typL (·<w'.heap.size) w' A ins∧Sq typL (·<w'.heap.size) w' B outs:=by
 obtain⟨hb,⟨hn,-⟩|⟨i2,o2,A,n,c,B,m,d,hs,he,⟨A2,c2,e2,-,-,s2⟩,⟨B2,d2,e3,-,-,s3⟩⟩⟩:=h
 · cases hn
 · simp only[Option.some.injEq,Prod.mk.injEq] at hs
   obtain⟨rfl,rfl⟩:=hs;simp only[List.cons.injEq,Value.slice.injEq,and_true] at e2 e3;obtain⟨rfl,rfl,rfl⟩:=e2;obtain⟨rfl,rfl,rfl⟩:=e3;exact⟨hb,_,_,_,_,he,s2,s3⟩
theorem qIm (hc:checkN x=0) (h:ruleB x f i s=some (ins,outs)):ins.length≤8∧outs.length≤8:=by
 by_cases h6:i.1=6
 · cases hs:s.reverse with
   |nil=>simp[ruleB,h6,hs] at h
   |cons t r=>simp[ruleB,h6,hs] at h;obtain⟨rfl,rfl⟩:=h;simp
 by_cases h7:i.1=7
 · cases hs:s.reverse with
   |nil=>simp[ruleB,h7,hs] at h
   |cons t r=>
    cases r with
    |nil=>simp[ruleB,h7,hs] at h
    |cons y r=>simp[ruleB,h7,hs] at h;obtain⟨rfl,rfl⟩:=h;simp
 by_cases h41:i.1=41
 · cases hs:s.reverse with
   |nil=>simp[ruleB,h41,hs] at h
   |cons t r=>
    by_cases h5:t.1=5
    · simp[ruleB,h41,hs,h5] at h;obtain⟨rfl,rfl⟩:=h;simp
    · simp[ruleB,h41,hs,h5] at h
 have hl:=qHV (f:=f) (i:=i) (s:=s) hc;simp only[chgB,h6,h7,h41,if_false,h] at hl;exact hl
theorem qJM (h:ruleB x f i s=none):insB8 x f i p s=(4,[],[]):=by simp[insB8,h]
theorem qE6 (h:ruleB x f i s=some (ins,outs)) (h':movB s ins outs=none):insB8 x f i p s=(4,[],[]):=by simp[insB8,h,h']
theorem qJO (h:ruleB x f i s=some (ins,outs)) (h':movB s ins outs=some t) (hn:nextB f i p=none):insB8 x f i p s=(1,[],[]):=by simp[insB8,h,h',hn]
theorem qJN {l:List Int} (h:ruleB x f i s=some (ins,outs)) (h':movB s ins outs=some t) (hn:nextB f i p=some l):insB8 x f i p s=(0,t,l):=by simp[insB8,h,h',hn]
theorem qHL {ty k c:Nat} {A:Option Addr} {xs:List Value} (h:w.ownsRow N ty k (.slice A n c) n xs):(A=none→c=0)∧∀a,A=some a→N≤a.block:=by
 rcases h.2 with⟨e,_⟩|⟨g,cap,cur,e,hb,_⟩
 · simp only[Value.slice.injEq] at e
   obtain⟨rfl,_,rfl⟩:=e;exact⟨fun _=>rfl,fun a h=>(by cases h)⟩
 · simp only[Value.slice.injEq,true_and] at e
   obtain⟨rfl,rfl⟩:=e;exact⟨fun h=>(by cases h),fun a h=>(by injection h with h;subst h;exact hb)⟩
theorem qCY {l:List Int} {V:World} {v:Value} {n' g:Nat} {cs:Array Value} (hr:r=(0,t,l)) (ho:V.ownsRow N 41 2 v n (T2 t)) (ha:A64 t) (hV:Below w.heap.size w V) (hN:w.heap.size≤N) (hw:Below V.heap.size V w') (hg:Blk w' g 3 cs) (hgN:w.heap.size≤g) (hcs:cs.toList=Is l) (hl:l.length=n'):RFlows r w (.returned (.tuple #[v,.slice (some ⟨g,0,none⟩) n' n',.int .i64 0])) w':=by
 subst hr hl;obtain⟨A,c,rfl,hn,h1,h2,h3⟩:=qCl ho ha;obtain⟨k1,k2⟩:=qHL ho;refine qAX ?_;intro e;subst hn;refine⟨hV.trans (hw.mono hV.size),A,c,_,_,rfl,⟨A,c,rfl,h1,h2,(h3.keep fun b hb=>hw.block b hb.2).wide fun b hb=>qAh hb.2 hw.size⟩,fun j x hx=>⟨_,rfl,hg.lt,?_⟩,k1,fun a h=>qA8 hN (k2 a h),fun a h=>(by injection h with h;subst h;exact hgN)⟩;rw[e,hg.cell j,←qJv hx,←hcs];simp
theorem qGa {V:World} {v:Value} (hr:r=(0,t,[])) (ho:V.ownsRow N 41 2 v n (T2 t)) (ha:A64 t) (hV:Below w.heap.size w V) (hN:w.heap.size≤N):RFlows r w (.returned (.tuple #[v,.slice none 0 0,.int .i64 0])) V:=by
 subst hr;obtain⟨A,c,rfl,hn,h1,h2,h3⟩:=qCl ho ha;obtain⟨k1,k2⟩:=qHL ho;subst hn;exact⟨hV,A,c,none,0,rfl,⟨A,c,rfl,h1,h2,h3.wide fun b hb=>hb.2⟩,fun j x hx=>(by simp at hx),k1,fun a h=>qA8 hN (k2 a h),fun a h=>(by cases h)⟩
end Go.Proofs.YtelceoecekfamaaGreat
