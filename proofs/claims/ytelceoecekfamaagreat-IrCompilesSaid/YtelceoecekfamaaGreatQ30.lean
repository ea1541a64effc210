/-
Rry Rrz Rrv Rru Irm
-/
import Derived.Test.YtelceoecekfamaaGreatQ15
import Derived.Test.YtelceoecekfamaaGreatQ21
import Derived.Test.YtelceoecekfamaaGreatQ22
import Derived.Test.YtelceoecekfamaaGreatQ23
import Derived.Test.YtelceoecekfamaaGreatQ24
import Derived.Test.YtelceoecekfamaaGreatQ29
set_option linter.unusedSimpArgs false
set_option linter.unusedVariables false
set_option maxHeartbeats 4000000
namespace Go.Proofs.YtelceoecekfamaaGreat
open Go.RowKit
variable {n z:Nat}
def rulR (qI:Nat→Option Int) (qT:Nat→Option (List Typ)):Option (Ev×Sxs)→Option (Option (List Typ×List Typ))
 |some (.r,σ)=>match slS σ.sl 8,slS σ.sl 9,slS σ.sl 10 with
  | .c .z,.c .z,.c (.y false)=>some none
  | .c x,.c y,.c (.y true)=>match tysS qI qT σ.bl x,tysS qI qT σ.bl y with
    |some l,some m=>some (some (l,m))
    |_,_=>none
  |_,_,_=>none
 |_=>none
def spR (g:Nat) (l:List SV):Option SV:=match l with
 |[.a [.q 5,.q 17,.q 18,.q 6,.q 7],.c (.q 9)]=>if g=20 then some (.a [.q 11,.q 12]) else none
 |_=>none
def tabL:Ent:=((4,39,0),[8],.c (.q 25))
noncomputable def evU (I:List Int) (tab:List Ent) (o:Option (List Typ)) (op:Int):Option (Option (List Typ×List Typ)):=rulR (qiC I) (qtC o) (evC Tryz.prog (orcT tab) (evF Tryz.prog (fun _=>none) (orcT tab) spR 0) 0 (Tryz.f10.body.getD .skip) ⟨argC op++List.replicate 290 (.c .u),[]⟩)
section
variable {A0 A1 A2 A3 A4 P0 P1 P2 D:Option Addr} {n0 n1 n2 n3 n4 d0 d1 d2 d3 d4 ua ul uc c0 c1 c2 k g:Nat} {x:Mod} {f:Fn} {ts:List Typ} {ia ib:Int} {w:World} {q:Typ}
theorem qBY {E:List Value} {tab:List Ent} {o:Option (List Typ)} {op:Int} {res:Option (List Typ×List Typ)} (H:Cx w A0 A1 A2 A3 A4 P0 P1 P2 D n0 n1 n2 n3 n4 d0 d1 d2 d3 d4 ua ul uc c0 c1 c2 k g x f ts) (hia:I64 ia) (hib:I64 ib) (hq:I64 q.1∧I64 q.2) (hE:∀v∈E,v.oneCell'=true)
 (htab:∀e∈tab,∀w',Below w.heap.size w w'→(semO (nv (nvC A0 A1 A2 A3 A4 P0 P1 P2 D n0 n1 n2 n3 n4 d0 d1 d2 d3 d4 ua ul uc c0 c1 c2 k g (numC f ts ia ib q) E)) e.1 e.2.1).run Tryz.prog w'= .ok (vs (nv (nvC A0 A1 A2 A3 A4 P0 P1 P2 D n0 n1 n2 n3 n4 d0 d1 d2 d3 d4 ua ul uc c0 c1 c2 k g (numC f ts ia ib q) E)) id e.2.2) w'∧e.2.2.refs=[])
 (ho:∀l,o=some l→∃B m c,E[2]? =some (.slice B m c)∧tysL.R (·<w.heap.size) w [.slice B m c] l) (hev:evU (numC f ts ia ib q) tab o op=some res):
 Calls Tryz.prog 10 #[.agg #[.slice A0 n0 d0,.slice A1 n1 d1,.slice A2 n2 d2,.slice A3 n3 d3,.slice A4 n4 d4],.agg #[.slice P0 ua c0,.int .i64 f.ret.1,.int .i64 f.ret.2,.slice P1 ul c1,.slice P2 uc c2],.agg #[.int .i64 op,.int .i64 ia,.int .i64 ib],.slice D k g] w (Ruled res w):=by
 generalize hL:nvC A0 A1 A2 A3 A4 P0 P1 P2 D n0 n1 n2 n3 n4 d0 d1 d2 d3 d4 ua ul uc c0 c1 c2 k g (numC f ts ia ib q) E=L at htab;have hq1:∀k,(nv L k).oneCell'=true:=qI6 (hL▸qHX rfl fun v hv=>(List.mem_append.1 hv).elim (fun h=>by obtain⟨n,-,rfl⟩:=List.mem_map.1 h;rfl) (hE v));have h64:∀n∈numC f ts ia ib q,I64 n:=fun n hn=>by
  have hl:=qHP (n:=ia) H.t0.a64 H.t1.a64;have h0:=qDe (n:=0) H.sk.a64;have h1:=qDe (n:=1) H.sk.a64;have hr:=H.rt;simp only[numC,List.mem_cons,List.not_mem_nil,or_false] at hn;rcases hn with rfl|rfl|rfl|rfl|rfl|rfl|rfl|rfl|rfl|rfl|rfl|rfl
  · exact hia
  · exact hib
  · exact hl.1
  · exact hl.2
  · exact h0.1
  · exact h0.2
  · exact h1.1
  · exact h1.2
  · exact hr.1
  · exact hr.2
  · exact hq.1
  · exact hq.2
 have hI:IntOK (nv L) (qiC (numC f ts ia ib q)):=fun j n h=>by
  unfold qiC at h;split at h
  · exact qo
  · cases h
 have hT:TysOK w (nv L) (qtC o):=fun j l h=>by
  subst hL;unfold qtC at h;split at h
  · rename_i e
    subst e;obtain⟨B,m,c,h1,h2⟩:=ho l h;exact⟨B,m,c,by simp[nv,nvC,numC,h1],h2⟩
  · cases h
 have hO:OrcOK Tryz.prog w (nv L) (orcT tab):=qHM (qD2 L) fun e he ad w' hb=>by
  obtain⟨h1,h2⟩:=htab e he w' hb;rw[h1,qB4 (ad:=id) (ad':=ad) fun j hj=>(by rw[h2] at hj;cases hj)]
 have hS:SpOK Tryz.prog w (nv L) spR:=fun h l r hr=>by
  unfold spR at hr;split at hr
  · split at hr
    · rename_i e
      subst e hL;injection hr with hr;subst hr;refine⟨⟨_,Tryz.func20,by kernel_rfl,by kernel_rfl⟩,fun ad v hb=> ?_⟩;exact qGZ P0 P1 P2 ua ul uc c0 c1 c2 f.ret.1 f.ret.2 f ia v H.g0 H.g1 ((H.t0.below hb (qAi _)).wide fun i hi=>qAh hi hb.size) ((H.t1.below hb (qAi _)).wide fun i hi=>qAh hi hb.size) (by have:=H.b3;have:=H.b4;omega) hia
    · cases hr
  · cases hr
 obtain⟨c,hb⟩:∃c,Tryz.f10.body=some c:=⟨_,rfl⟩;refine calls_of_wp Tryz.func10 hb ?_;unfold evU at hev;rw[hb] at hev;simp only[Option.getD_some] at hev
 cases he:evC Tryz.prog (orcT tab) (evF Tryz.prog (fun _=>none) (orcT tab) spR 0) 0 c ⟨argC op++List.replicate 290 (.c .u),[]⟩ with
 |none=>rw[he] at hev;simp[rulR] at hev
 |some R=>
  obtain⟨e,σ⟩:=R;rw[he] at hev;unfold rulR at hev;split at hev
  · rename_i σ' e'
    injection e' with e';injection e' with e1 e2;subst e1;subst e2;have h0:Rl w w (nv L) id 0 id ⟨argC op++List.replicate 290 (.c .u),[]⟩ {tmps:= #[.agg #[.slice A0 n0 d0,.slice A1 n1 d1,.slice A2 n2 d2,.slice A3 n3 d3,.slice A4 n4 d4],.agg #[.slice P0 ua c0,.int .i64 f.ret.1,.int .i64 f.ret.2,.slice P1 ul c1,.slice P2 uc c2],.agg #[.int .i64 op,.int .i64 ia,.int .i64 ib],.slice D k g]++Array.replicate (Tryz.f10.ntmps-4) undef,defers:=[]} w:=by
     subst hL;refine⟨?_,rfl,⟨fun j T cs h=>by simp at h,fun i j A B h=>by simp at h,fun j A h=>by simp at h,fun j T cs h=>by simp at h⟩,qAk _ _,qAk _ _,fun j A _ h=>by simp at h,fun _ h=>by omega,qAi _,fun v hv j hj=> ?_⟩
     · apply Array.ext'
       simp only[Array.toList_append,Array.toList_replicate,List.map_append,List.map_replicate]
       rfl
     · rcases List.mem_append.1 hv with hv|hv
       · simp[argC] at hv
         rcases hv with rfl|rfl|rfl|rfl<;>simp[SV.refs,refsL,SL.refs] at hj
       · rw[(List.mem_replicate.1 hv).2] at hj;simp[SV.refs,SL.refs] at hj
    refine qJh qV hq1 (qJg qV hq1 (fun f fn h=>by cases h) hO hS 0) hO c _ .r σ id _ w _ he h0 fun ad' a' w' hR=> ?_;have hres:(results Tryz.f10 a'.tmps).run Tryz.prog w'= .ok (.tuple #[a'.tmps.getD 8 undef,a'.tmps.getD 9 undef,a'.tmps.getD 10 undef]) w':=by
     simp[results,Tryz.results10]
    rw[qDq hR.tm 8,qDq hR.tm 9,qDq hR.tm 10] at hres;have hp:Post (nv L) id [] σ.bl w w' ad':=⟨fun j h=>by simp at h,hR.bw,fun j T cs hj=>by simp only[List.length_nil,Nat.zero_add];exact⟨hR.own j _ (qAq _) hj,hR.hd.here j T cs hj⟩,fun i j A B hi hj e=>hR.hd.inj i j A B hi hj (by simpa using e)⟩;refine⟨hR.df,_,hres,hR.bw,?_⟩;split at hev
    · rename_i h1 h2 h3
      injection hev with hev;subst hev;rw[h1,h2,h3];exact .inl ⟨rfl,rfl⟩
    · rename_i y1 y2 h1 h2 h3
      split at hev
      · rename_i l m hl hm
        injection hev with hev;subst hev;obtain⟨B1,m1,k1,e1,t1⟩:=qEv hI hT hp hl;obtain⟨B2,m2,k2,e2,t2⟩:=qEv hI hT hp hm;have wd:∀b,(b<w.heap.size∨w.heap.size≤b∧b<w'.heap.size)→b<w'.heap.size:=fun b h=>h.elim (fun h=>qAh h hR.bw.size) And.right;rw[h1,h2,h3];exact .inr ⟨l,m,B1,m1,k1,B2,m2,k2,rfl,by simp only[vs,e1,e2];rfl,tysL.wide t1 wd,tysL.wide t2 wd⟩
      · cases hev
    · cases hev
  · cases hev
end
section
variable {x:Mod} {f:Fn} {ts qs:List Typ} {ia ib:Int} {q:Typ}
theorem qIp:∀o:Nat,o≤41→o≠6→o≠7→o≠25→o≠27→o≠28→o≠29→o≠30→o≠41→evU (numC f ts ia ib q) [tabL] none o=some (ruleB x f (o,ia,ib) ts):=by
 intro o h0 h1 h2 h3 h4 h5 h6 h7 h8
 iterate 42 (rcases o with _|o;· first|omega|(as_aux_lemma=>kernel_rfl))
 omega
end
section
variable {x:Mod} {f:Fn} {ts qs:List Typ} {ia ib:Int} {q:Typ}
theorem ru_25:evU (numC f ts ia ib q) (tabL::tabA 1 23 44) (some qs) 25=some (some (qs,[q])):=by kernel_rfl
theorem ru_27:evU (numC f ts ia ib q) (tabL::tabA 2 24 56) (some qs) 27=some (some (qs,[q])):=by kernel_rfl
theorem ru_28:evU (numC f ts ia ib q) (tabL::tabR.take 2) (some qs) 28=some (some (qs,[(4,ia)])):=by kernel_rfl
theorem ru_29:evU (numC f ts ia ib q) (tabL::tabR) (some qs) 29=some (some ([(4,ia)],[q])):=by kernel_rfl
theorem ru_30:evU (numC f ts ia ib q) (tabL::tabR) (some qs) 30=some (some ([(4,ia),q],[])):=by kernel_rfl
def tabF (b:Bool) (n:Nat):Ent:=((5,3,1),[25,1000+n],.c (.y b))
def tabS (n:Nat):List Ent:=[((5,3,0),[25,1001],.c (.q 26)),((0,39,0),[8,26],.c (.q 28)),((2,41,0),[28],.a [.q 13,.q 14]),((3,39,0),[8,n],.c (.q 23))]
def tabT:List Ent:=[((5,3,0),[25,1002],.c (.q 27)),((0,39,0),[8,27],.c (.q 29)),((2,41,0),[29],.a [.q 15,.q 16])]
def tabK (b:Bool):List Ent:=[((1,41,0),[28],.c (.q 28)),((2,3,0),[28],.c (.q 13)),((5,3,2),[13,1005],.c (.y b))]
theorem ru_6n:evU (numC f ts ia ib q) [tabL,tabF true 1] none 6=some none:=by kernel_rfl
theorem ru_6:evU (numC f ts ia ib q) (tabL::tabF false 1::tabS 26) (some qs) 6=some (some (qs,[topB ts 0,topB ts 0])):=by kernel_rfl
theorem ru_7n:evU (numC f ts ia ib q) [tabL,tabF true 2] none 7=some none:=by kernel_rfl
theorem ru_7:evU (numC f ts ia ib q) (tabL::tabF false 2::(tabS 27++tabT)) (some qs) 7=some (some (qs,[topB ts 0,topB ts 1])):=by kernel_rfl
theorem ru_41n:evU (numC f ts ia ib q) [tabL,tabF true 1] none 41=some none:=by kernel_rfl
theorem ru_41o:evU (numC f ts ia ib q) (tabL::tabF false 1::(tabS 26++tabK true)) none 41=some none:=by kernel_rfl
theorem ru_41:evU (numC f ts ia ib q) (tabL::tabF false 1::(tabS 26++tabK false)) (some qs) 41=some (some (qs,[])):=by kernel_rfl
end
def EntOK (L:List Value) (w:World) (e:Ent):Prop:=∀w',Below w.heap.size w w'→(semO (nv L) e.1 e.2.1).run Tryz.prog w'= .ok (vs (nv L) id e.2.2) w'∧e.2.2.refs=[]
section
variable {L:List Value} {w:World} {D:Option Addr} {a:Addr} {k g j m:Nat} {t:Typ}
theorem qCC (h8:nv L 8= .slice D k g) (h25:nv L 25= .int .i64 k):EntOK L w tabL:=fun w' _=>
 ⟨by simp[tabL,semO,h8,h25,vs,lv,Builtin.len_,run_underlying Tryz.underlying39,goInt],rfl⟩
theorem qE5 {b:Bool} (hn:n<1000) (h25:nv L 25= .int .i64 k) (hb:decide ((k:Int)<(n:Int))=b):EntOK L w (tabF b n):=fun w' _=>
 ⟨by simp[tabF,semO,h25,qD2 L n hn,vs,lv,binOp,Op.intCmp,←hb],rfl⟩
theorem qGN (hn:n<1000) (hk:k≤1000) (h25:nv L 25= .int .i64 k) (hz:nv L z= .int .i64 ((k:Int)-(n:Int))):EntOK L w ((5,3,0),[25,1000+n],.c (.q z)):=fun w' _=>
 ⟨by
   have e:IntKind.i64.wrap ((k:Int)-(n:Int))=(k:Int)-(n:Int):=by rw[qAv];omega
   simp[semO,h25,qD2 L n hn,vs,lv,binOp,Op.intArith,hz,e],rfl⟩
theorem qJq (h8:nv L 8= .slice (some a) k g) (hn:nv L n= .int .i64 (j:Int)) (hz:nv L z= .pointer (some (a.add (j*2)))) (hj:j<k):EntOK L w ((0,39,0),[8,n],.c (.q z)):=fun w' _=>
 ⟨by simp only[semO,h8,hn,vs,lv,hz];exact qCd Tryz.underlying39 qV hj,rfl⟩
theorem qGL {u v:Nat} (hz:nv L z= .pointer (some a)) (hu:nv L u= .int .i64 t.1) (hv:nv L v= .int .i64 t.2) (hb:a.block<w.heap.size) (hc:∀(i:Nat) x,[.int .i64 t.1,.int .i64 t.2][i]? =some x→w.cell? (a.add i)=some x):EntOK L w ((2,41,0),[z],.a [.q u,.q v]):=fun w' hw=>
 ⟨by
   have:=qDv (w:=w') (P:=Tryz.prog) (T:=41) (p:=a) (cs:=[.int .i64 t.1,.int .i64 t.2]) Tryz.underlying41 rfl qV fun i x hi=>(hw.cell (by rw[qAz];exact hb)).trans (hc i x hi);simpa only[semO,hz,hu,hv,vs,lv,List.map] using this,rfl⟩
theorem qHE (h8:nv L 8= .slice (some a) k g) (hn:nv L n= .int .i64 (j:Int)) (h23:nv L 23= .slice (some (a.add (j*2))) (k-j) (g-j)) (hj:j<k) (hg:k≤g):EntOK L w ((3,39,0),[8,n],.c (.q 23)):=fun w' _=>
 ⟨by
   have h1:¬g=j:=by omega
   have h2:(szT Tryz.prog 41)=some 2:=by kernel_rfl
   have h3:(j:Int)≤(k:Int):=by omega
   simp[semO,h8,hn,h23,vs,lv,Instr.sliceAt,Instr.slice,Instr.sliceBounds,Instr.sliceBound,asIntOf,run_underlying Tryz.underlying39,qCN h2,h1,hj,h3,Nat.le_of_lt hj],rfl⟩
theorem kind_ok {u:Nat} {b:Bool} (hz:nv L z= .pointer (some a)) (hu:nv L u= .int .i64 t.1) (hb:a.block<w.heap.size) (hc:w.cell? a=some (.int .i64 t.1)) (hk:(t.1 != 5)=b):∀e∈[((1,41,0),[z],.c (.q z)),((2,3,0),[z],.c (.q u)),((5,3,2),[u,1005],.c (.y b))],EntOK L w e:=by
 intro e he w' hw;simp only[List.mem_cons,List.not_mem_nil,or_false] at he;rcases he with rfl|rfl|rfl
 · refine⟨?_,rfl⟩
   have:(Instr.fieldAt 41 (.pointer (some a)) 0).run Tryz.prog w'= .ok (.pointer (some a)) w':=qDI (w:=w') (p:=a) (f:=0) (sz:=0) Tryz.underlying41 rfl qV;simpa only[semO,hz,vs,lv] using this
 · exact⟨by simp only[semO,hz,hu,vs,lv];exact qDJ Tryz.underlying3 rfl ((hw.cell hb).trans hc),rfl⟩
 · exact⟨by simp[semO,hu,qD2 L 5 (by omega),vs,lv,binOp,Op.intCmp,←hk],rfl⟩
theorem qA5 {e:Ent} {l:List Ent} (h:EntOK L w e) (h':∀x∈l,EntOK L w x):∀x∈e::l,EntOK L w x:=fun x hx=>(List.mem_cons.1 hx).elim (fun q=>by rw[q];exact h) (h' x)
theorem qJk {l l':List Ent} (h:∀e∈l,EntOK L w e) (h':∀e∈l',EntOK L w e):∀e∈l++l',EntOK L w e:=fun x hx=>(List.mem_append.1 hx).elim (h x) (h' x)
theorem qCS:∀e∈([]:List Ent),EntOK L w e:=fun _ h=>by cases h
end
theorem qEe:RuleAny:=by
 intro A0 A1 A2 A3 A4 P0 P1 P2 D n0 n1 n2 n3 n4 d0 d1 d2 d3 d4 ua ul uc c0 c1 c2 k g x f ts o ia ib w H hg hn hkg hg9;obtain⟨o1,j,l,rfl,rfl,rfl,ho,hj,hl,-,-,-⟩:=qA6 hg;have hia:I64 (j:Int):=⟨by omega,by omega⟩;have hib:I64 (l:Int):=⟨by omega,by omega⟩;have z64:I64 ((0,0):Typ).1∧I64 ((0,0):Typ).2:=⟨qBE (by omega) (by omega),qBE (by omega) (by omega)⟩;have hb5:=H.b5;have oneE:∀{E:List Value},E.all Value.oneCell'=true→∀v∈E,v.oneCell'=true:=fun h v hv=>List.all_eq_true.1 h v hv
 by_cases hst:o1=6∨o1=7∨o1=41
 · have hk:=H.hk
   have few:∀n:Nat,k<n→n<1000→∀e∈[tabL,tabF true n],EntOK (nvC A0 A1 A2 A3 A4 P0 P1 P2 D n0 n1 n2 n3 n4 d0 d1 d2 d3 d4 ua ul uc c0 c1 c2 k g (numC f ts j l (0,0)) [.bool true,.bool true,.bool true,.bool true,.int .i64 (k:Int)]) w e:=fun n h1 h2=>qA5 (qCC (D:=D) (k:=k) (g:=g) rfl rfl) (qA5 (qE5 (k:=k) h2 rfl qK) qCS)
   by_cases hk1:k<1
   · have e0:ts=[]:=qA4 (by omega)
     have run:=fun n h1 h2 res h=>qBY (E:=[.bool true,.bool true,.bool true,.bool true,.int .i64 (k:Int)]) (op:=(o1:Int)) (res:=res) H hia hib z64 (oneE rfl) (few n h1 h2) (o:=none) (fun l h=>by cases h) h;rcases hst with rfl|rfl|rfl
     · rw[show ruleB x f ((6:Nat),(j:Int),(l:Int)) ts=none by simp[ruleB,e0]]
       exact run 1 hk1 (by omega) none ru_6n
     · rw[show ruleB x f ((7:Nat),(j:Int),(l:Int)) ts=none by simp[ruleB,e0]]
       exact run 2 (by omega) (by omega) none ru_7n
     · rw[show ruleB x f ((41:Nat),(j:Int),(l:Int)) ts=none by simp[ruleB,e0]]
       exact run 1 hk1 (by omega) none ru_41n
   obtain⟨b,hb⟩:∃b,k=b+1:=⟨k-1,by omega⟩;obtain⟨t,ht⟩:∃t,ts[b]? =some t:=⟨ts[b]'(by omega),List.getElem?_eq_getElem _⟩;obtain⟨r,hr⟩:=rev_1 (by omega) ht;have et:=qDl hr;obtain⟨a,cs,rfl,hab,hc,rfl,ht1,ht2⟩:=H.sk.at ht;have hc':∀(i:Nat) u,[.int .i64 t.1,.int .i64 t.2][i]? =some u→w.cell? ((a.add (b*2)).add i)=some u:=fun i u hi=>by rw[qCG];exact hc i u hi
   have hab':(a.add (b*2)).block<w.heap.size:=by rw[qAz];exact hab
   by_cases h7:o1=7
   · subst h7
     by_cases hk2:k<2
     · have e1:ts=[t]:=by rw[←qFD (by omega) ht,show b=0 by omega];rfl
       rw[show ruleB x f ((7:Nat),(j:Int),(l:Int)) ts=none by simp[ruleB,e1]];exact qBY (E:=[.bool true,.bool true,.bool true,.bool true,.int .i64 (k:Int)]) H hia hib z64 (oneE rfl) (few 2 hk2 (by omega)) (o:=none) (fun l h=>by cases h) ru_7n
     obtain⟨c,rfl⟩:∃c,b=c+1:=⟨b-1,by omega⟩;obtain⟨y,hy⟩:∃y,ts[c]? =some y:=⟨ts[c]'(by omega),List.getElem?_eq_getElem _⟩;obtain⟨r2,hr2⟩:=rev_2 (by omega) hy ht;have ey:=qIY hr2;obtain⟨a',cs,ea,-,hcy,rfl,-,-⟩:=H.sk.at hy;injection ea with ea;subst ea;have hcy':∀(i:Nat) u,[.int .i64 y.1,.int .i64 y.2][i]? =some u→w.cell? ((a.add (c*2)).add i)=some u:=fun i u hi=>by rw[qCG];exact hcy i u hi
     have hac:(a.add (c*2)).block<w.heap.size:=by rw[qAz];exact hab
     rw[show ruleB x f ((7:Nat),(j:Int),(l:Int)) ts=some ([y,t],[topB ts 0,topB ts 1]) by simp[ruleB,hr2,et,ey]];refine qBY (q:=(0,0)) (E:=[.bool true,.bool true,.slice (some (a.add (c*2))) (k-c) (g-c),.bool true,.int .i64 (k:Int),.int .i64 ((c+1:Nat):Int),.int .i64 (c:Int),.pointer (some (a.add ((c+1)*2))),.pointer (some (a.add (c*2)))]) H hia hib z64 (oneE rfl)
      (qA5 (qCC (D:=some a) (k:=k) (g:=g) rfl rfl) (qA5 (qE5 (k:=k) (n:=2) (by omega) rfl qK) (qJk (qA5 (qGN (k:=k) (n:=1) (by omega) hb5 rfl (by show Value.int .i64 _=_;congr 1;omega)) (qA5 (qJq (k:=k) (g:=g) (j:=c+1) rfl rfl rfl (by omega)) (qA5 (qGL (t:=t) rfl (by rw[←et];rfl) (by rw[←et];rfl) hab' hc') (qA5 (qHE (k:=k) (g:=g) (j:=c) rfl rfl rfl (by omega) hkg) qCS))))
        (qA5 (qGN (k:=k) (n:=2) (by omega) hb5 rfl (by show Value.int .i64 _=_;congr 1;omega)) (qA5 (qJq (k:=k) (g:=g) (j:=c) rfl rfl rfl (by omega)) (qA5 (qGL (t:=y) rfl (by rw[←ey];rfl) (by rw[←ey];rfl) hac hcy') qCS)))))) (fun l h=> ?_) ru_7
     injection h with h;subst h;exact⟨_,_,_,rfl,rtail H.sk (qAk _ _) (qJl (by omega) hy ht) qK (by omega) (by omega)⟩
   have tabs:=fun(L:List Value) h8 h25 h26 h28 h13 h14 h23=>qA5 (qCC (L:=L) (w:=w) (D:=some a) (k:=k) (g:=g) h8 h25) (qA5 (qE5 (n:=1) (b:=false) (by omega) h25 qK) (qA5 (qGN (n:=1) (z:=26) (by omega) hb5 h25 (h26.trans (by congr 1;omega))) (qA5 (qJq (j:=b) (z:=28) h8 h26 h28 (by omega)) (qA5 (qGL (t:=t) (u:=13) (v:=14) h28 h13 h14 hab' hc') (qA5 (qHE (j:=b) h8 h26 h23 (by omega) hkg) qCS)))));have hT:∀l',some [t]=some l'→∃B' m c',some (Value.slice (some (a.add (b*2))) (k-b) (g-b))=some (.slice B' m c')∧tysL.R (·<w.heap.size) w [.slice B' m c'] l':=fun l' h=>by
    injection h with h;subst h;exact⟨_,_,_,rfl,rtail H.sk (qAk _ _) (qFD (by omega) ht) qK (by omega) (by omega)⟩
   have run:=fun res tab o hh he=>qBY (q:=(0,0)) (E:=[.bool true,.bool true,.slice (some (a.add (b*2))) (k-b) (g-b),.bool true,.int .i64 (k:Int),.int .i64 (b:Int),.bool true,.pointer (some (a.add (b*2)))]) (op:=(o1:Int)) (res:=res) (tab:=tab) (o:=o) H hia hib z64 (oneE rfl) hh he;have tb:=tabs (nvC A0 A1 A2 A3 A4 P0 P1 P2 (some a) n0 n1 n2 n3 n4 d0 d1 d2 d3 d4 ua ul uc c0 c1 c2 k g (numC f ts j l (0,0)) [.bool true,.bool true,.slice (some (a.add (b*2))) (k-b) (g-b),.bool true,.int .i64 (k:Int),.int .i64 (b:Int),.bool true,.pointer (some (a.add (b*2)))]) rfl rfl rfl rfl (by rw[←et];rfl) (by rw[←et];rfl) rfl
   by_cases h6:o1=6
   · subst h6
     rw[show ruleB x f ((6:Nat),(j:Int),(l:Int)) ts=some ([t],[topB ts 0,topB ts 0]) by simp[ruleB,hr,et]];exact run _ _ _ tb hT ru_6
   obtain rfl:o1=41:=by omega
   have tk:=fun c hk x (hx:x∈tabL::tabF false 1::(tabS 26++tabK c))=>((by simpa[or_assoc] using hx:x∈tabL::tabF false 1::tabS 26∨x∈tabK c)).elim (tb x) (kind_ok (t:=t) (b:=c) rfl (by rw[←et];rfl) hab' (hc' 0 _ rfl) hk x)
   by_cases h5:t.1=5
   · rw[show ruleB x f ((41:Nat),(j:Int),(l:Int)) ts=some ([t],[]) by simp[ruleB,hr,h5]]
     exact run _ _ _ (tk false (by simp[h5])) hT ru_41
   · rw[show ruleB x f ((41:Nat),(j:Int),(l:Int)) ts=none by simp[ruleB,hr,h5]]
     exact run _ _ none (tk true (by simpa using h5)) (fun l h=>by cases h) ru_41o
 by_cases h25:o1=25
 · subst h25
   simp[namedB] at hn;obtain⟨q,hq⟩:∃q,x.funcs[j]? =some q:=⟨x.funcs[j]'(by omega),List.getElem?_eq_getElem _⟩;have e:ruleB x f ((25:Nat),(j:Int),(l:Int)) ts=some (q.args,[q.ret]):=by simp[ruleB,hq]
   rw[e];obtain⟨a,cs,rfl,hab,hc,v0,v1,v2,rfl,hr1,hr2,ht,-,-⟩:=H.s1.at hq;obtain⟨B,c,e0,-⟩:=id ht;injection e0 with e0 _;subst e0;refine qBY (q:=q.ret) (E:=[.pointer (some (a.add (j*5))),.pointer (some ((a.add (j*5)).add 1)),.slice B q.args.length c,.bool true,.int .i64 (k:Int)]) H hia hib ⟨hr1,hr2⟩ (oneE rfl) (qA5 (qCC (D:=D) (k:=k) (g:=g) rfl rfl) (qDf (sz:=5) (j:=j) (v0:= .slice B q.args.length c) rfl rfl rfl rfl rfl rfl rfl Tryz.underlying23 qV Tryz.underlying44 rfl rfl qV rfl rfl qV (by have:=H.l1;omega) hab fun i u hi=>hc i u ?_)) (fun l h=> ?_) ru_25
   · match i,hi with
     |0,hi|1,hi|2,hi=>simpa using hi
     |i+3,hi=>simp at hi
   · exact zj
 by_cases h27:o1=27
 · subst h27
   simp[namedB] at hn;obtain⟨q,hq⟩:∃q,x.imps[j]? =some q:=⟨x.imps[j]'(by omega),List.getElem?_eq_getElem _⟩;have e:ruleB x f ((27:Nat),(j:Int),(l:Int)) ts=some (q.args,[q.ret]):=by simp[ruleB,hq]
   rw[e];obtain⟨a,cs,rfl,hab,hc,v0,rfl,hr1,hr2,ht⟩:=H.s2.at hq;obtain⟨B,c,e0,-⟩:=id ht;injection e0 with e0 _;subst e0;refine qBY (q:=q.ret) (E:=[.pointer (some (a.add (j*3))),.pointer (some ((a.add (j*3)).add 1)),.slice B q.args.length c,.bool true,.int .i64 (k:Int)]) H hia hib ⟨hr1,hr2⟩ (oneE rfl) (qA5 (qCC (D:=D) (k:=k) (g:=g) rfl rfl) (qDf (sz:=3) (j:=j) (v0:= .slice B q.args.length c) rfl rfl rfl rfl rfl rfl rfl Tryz.underlying24 qV Tryz.underlying56 rfl rfl qV rfl rfl qV (by have:=H.l2;omega) hab hc)) (fun l h=> ?_) ru_27;exact zj
 by_cases hrec:o1=28∨o1=29∨o1=30
 · cases hr:x.recs[j]? with
   |none=>
    exfalso;have:=List.getElem?_eq_none_iff.1 hr;rcases hrec with rfl|rfl|rfl<;>simp[namedB,hr] at hn
    omega
   |some r=>
    obtain⟨a,cs,rfl,hab,hc,B,c,rfl,hrc,hm,hsq⟩:=H.s0.at hr;have hc0:=hc 0 _ rfl;simp only[show(tysL:Lay (List Typ)).k=1 from rfl,Nat.mul_one,Nat.add_zero] at hc0;have hT:∀l',some r=some l'→∃B' m c',some (Value.slice B r.length c)=some (.slice B' m c')∧tysL.R (·<w.heap.size) w [.slice B' m c'] l':=fun l' h=>by
     injection h with h;subst h;exact⟨_,_,_,rfl,B,c,rfl,hrc,hm,hsq⟩
    have hjn:j<n0:=by have:=(qAj.1 hr).1;have:=H.l0;omega
    rcases hrec with rfl|hrec
    · have e:ruleB x f ((28:Nat),(j:Int),(l:Int)) ts=some (r,[(4,(j:Int))]):=by simp[ruleB,hr]
      rw[e];exact qBY (q:=(0,0)) (E:=[.pointer (some (a.add j)),.bool true,.slice B r.length c,.bool true,.int .i64 (k:Int)]) H hia hib ⟨qBE (by omega) (by omega),qBE (by omega) (by omega)⟩ (oneE rfl) (qA5 (qCC (D:=D) (k:=k) (g:=g) rfl rfl) (qEw rfl rfl rfl rfl hjn hab hc0)) hT ru_28
    · obtain⟨t,ht⟩:∃t,r[l]? =some t:=⟨r[l]'(by rcases hrec with rfl|rfl<;>(simp[namedB,hr] at hn;omega)),List.getElem?_eq_getElem _⟩
      obtain⟨b,cs,rfl,hbb,hcb,rfl,ht1,ht2⟩:=hsq.at ht;refine qAT ?_;intro htab;rcases hrec with rfl|rfl
      · have e:ruleB x f ((29:Nat),(j:Int),(l:Int)) ts=some ([(4,(j:Int))],[t]):=by simp[ruleB,fldB,hr,ht]
        rw[e];exact qBY (q:=t) (E:=[.pointer (some (a.add j)),.bool true,.slice (some b) r.length c,.pointer (some (b.add (l*2))),.int .i64 (k:Int)]) H hia hib ⟨ht1,ht2⟩ (oneE rfl) (qA5 (qCC (D:=D) (k:=k) (g:=g) rfl rfl) (htab _ rfl rfl rfl rfl rfl rfl rfl rfl)) hT ru_29
      · have e:ruleB x f ((30:Nat),(j:Int),(l:Int)) ts=some ([(4,(j:Int)),t],[]):=by simp[ruleB,fldB,hr,ht]
        rw[e];exact qBY (q:=t) (E:=[.pointer (some (a.add j)),.bool true,.slice (some b) r.length c,.pointer (some (b.add (l*2))),.int .i64 (k:Int)]) H hia hib ⟨ht1,ht2⟩ (oneE rfl) (qA5 (qCC (D:=D) (k:=k) (g:=g) rfl rfl) (htab _ rfl rfl rfl rfl rfl rfl rfl rfl)) hT ru_30
 · exact qBY (q:=(0,0)) (E:=[.bool true,.bool true,.bool true,.bool true,.int .i64 (k:Int)]) (o:=none) H hia hib z64 (oneE rfl) (qA5 (qCC (D:=D) (k:=k) (g:=g) rfl rfl) qCS) (fun l h=>by cases h) (qIp o1 (by omega) (by omega) (by omega) h25 h27 (by omega) (by omega) (by omega) (by omega))
theorem fn_cx {cs:List Value} {x:Mod} {j:Nat} {fn:Fn} {w:World} (h:modL.R (·<w.heap.size) w cs x) (hc:checkN x=0) (hf:x.funcs[j]? =some fn):
 ∃A0 a A2 A3 A4 n0 n2 n3 n4 d0 d1 d2 d3 d4 P0 P1 b c0 c1 c2,cs=[.slice A0 n0 d0,.slice (some a) x.funcs.length d1,.slice A2 n2 d2,.slice A3 n3 d3,.slice A4 n4 d4]∧a.block<w.heap.size∧b.block<w.heap.size∧
  ∀v,Below w.heap.size w v→(v.cell? (a.add (j*5))=some (.slice P0 fn.args.length c0)∧v.cell? ⟨(a.add (j*5)).block,(a.add (j*5)).off+1,none⟩=some (.int .i64 fn.ret.1)∧v.cell? ⟨(a.add (j*5)).block,(a.add (j*5)).off+2,none⟩=some (.int .i64 fn.ret.2)∧v.cell? ⟨(a.add (j*5)).block,(a.add (j*5)).off+3,none⟩=some (.slice P1 fn.locs.length c1)∧v.cell? ⟨(a.add (j*5)).block,(a.add (j*5)).off+4,none⟩=some (.slice (some b) fn.code.length c2))∧
   (∀(p:Nat) (i:Ins),fn.code[p]? =some i→v.cell? (b.add (p*3))=some (.int .i64 i.1)∧v.cell? ⟨(b.add (p*3)).block,(b.add (p*3)).off+1,none⟩=some (.int .i64 i.2.1)∧v.cell? ⟨(b.add (p*3)).block,(b.add (p*3)).off+2,none⟩=some (.int .i64 i.2.2))∧
   ∀(p:Nat) (i:Ins) (D:Option Addr) (k g:Nat) (ts:List Typ),fn.code[p]? =some i→ts.length=k→Sq typL (·<v.heap.size) v D ts→k≤1000→k≤g→g≤9223372036854775807→Calls Tryz.prog 10 #[.agg #[.slice A0 n0 d0,.slice (some a) x.funcs.length d1,.slice A2 n2 d2,.slice A3 n3 d3,.slice A4 n4 d4],.agg #[.slice P0 fn.args.length c0,.int .i64 fn.ret.1,.int .i64 fn.ret.2,.slice P1 fn.locs.length c1,.slice (some b) fn.code.length c2],.agg #[.int .i64 i.1,.int .i64 i.2.1,.int .i64 i.2.2],.slice D k g] v (Ruled (ruleB x fn i ts) v):=by
 obtain⟨q1,q2,q3,q4⟩:=qBR hc (qAl hf);have HFit:=qA1.1 (qAw hc);have hk:0<fn.code.length:=by
  have:=HFit.funcs _ (qAl hf);simp only[fnOk,Bool.and_eq_true,qBH] at this
  omega
 obtain⟨_,_,_,_,_,rfl,⟨A0,d0,e0,l0,m0,s0⟩,⟨A1,d1,e1,l1,m1,s1⟩,⟨A2,d2,e2,l2,m2,s2⟩,⟨A3,d3,e3,-⟩,⟨A4,d4,e4,-⟩⟩:=h;simp only[List.cons.injEq,and_true] at e0 e1 e2 e3 e4;subst e0 e1 e2 e3 e4;obtain⟨a,ccs,ea,hab,hcl,hR⟩:=s1.at hf;subst ea;obtain⟨p0,p1,p2,rfl,hr1,hr2,⟨P0,c0,e4,f0,f1,t0⟩,⟨P1,c1,e5,f2,f3,t1⟩,⟨P2,c2,e6,f4,f5,t2⟩⟩:=hR;simp only[List.cons.injEq,and_true] at e4 e5 e6;subst e4 e5 e6;obtain⟨b,-,eb,hbb,-⟩:=t2.at (List.getElem?_eq_getElem hk);subst eb;refine⟨A0,a,A2,A3,A4,_,_,_,_,d0,d1,d2,d3,d4,P0,P1,b,c0,c1,c2,rfl,hab,hbb,fun v hb=>⟨?_,fun p i hi=> ?_,fun p i D k g ts hi hk sk bk bg bg2=> ?_⟩⟩
 · exact qb
 · obtain⟨b',ics,eb,-,hil,hiR⟩:=t2.at hi
   injection eb with eb;subst eb;obtain⟨rfl,-,-,-⟩:=hiR;exact qx
 · obtain⟨hgood,hnam⟩:=q4 _ (qAl hi)
   exact qEe A0 (some a) A2 A3 A4 P0 P1 (some b) D _ _ _ _ _ d0 d1 d2 d3 d4 _ _ _ c0 c1 c2 k g x fn ts i.1 i.2.1 i.2.2 v
    ⟨rfl,rfl,rfl,(s0.below hb (qAi _)).wide fun i hi=>qAh hi hb.size,(s1.below hb (qAi _)).wide fun i hi=>qAh hi hb.size,(s2.below hb (qAi _)).wide fun i hi=>qAh hi hb.size,rfl,rfl,(t0.below hb (qAi _)).wide fun i hi=>qAh hi hb.size,(t1.below hb (qAi _)).wide fun i hi=>qAh hi hb.size,⟨hr1,hr2⟩,hk,sk,by have:=HFit.r8;omega,by have:=HFit.f8;omega,by have:=HFit.i8;omega,by omega,by omega,bk⟩ hgood hnam bg bg2
end Go.Proofs.YtelceoecekfamaaGreat
