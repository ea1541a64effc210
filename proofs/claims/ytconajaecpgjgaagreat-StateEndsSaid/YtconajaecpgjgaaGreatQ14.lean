/-
Ffo Ffp Vm Vc Vs Gp Gq
-/
import Derived.Test.YtconajaecpgjgaaGreatQ07
import Derived.Test.YtconajaecpgjgaaGreatQ09
import Derived.Test.YtconajaecpgjgaaGreatQ13
set_option linter.unusedSimpArgs false
set_option linter.unusedVariables false
set_option maxRecDepth 100000
set_option maxHeartbeats 1000000
namespace Go.Proofs.YtconajaecpgjgaaGreat
open Go.RowKit
def follB (i:Ins) (pc:Int):List Int:=if i.1=26 then [] else if i.1=23 then [i.2.1] else if i.1=24 then [pc+1,i.2.1] else [pc+1]
def Nums (l:List Int) (w:World) (e:Ending) (w':World):Prop:=Below w.heap.size w w'∧∃v,e= .returned v∧w'.ownsRow w.heap.size 3 1 v l.length (Is l)
theorem qF0 {w:World} {g N:Nat} {x:Int} (h:Blk w g 3 #[.int .i64 x]) (hg:N≤g):w.ownsRow N 3 1 (.slice (some ⟨g,0,none⟩) 1 1) 1 (Is [x]):=
 ⟨rfl,.inr ⟨g,1,_,rfl,hg,h,qAZ _,by simp[maxLen],rfl,rfl⟩⟩
theorem qJj {w:World} {g N:Nat} {x y:Int} (h:Blk w g 3 #[.int .i64 x,.int .i64 y]) (hg:N≤g):w.ownsRow N 3 1 (.slice (some ⟨g,0,none⟩) 2 2) 2 (Is [x,y]):=
 ⟨rfl,.inr ⟨g,2,_,rfl,hg,h,qAZ _,by simp[maxLen],rfl,rfl⟩⟩
theorem qHA (o a b pc:Int) (w:World) (hp:0≤pc) (hp2:pc≤1000000):Calls Tryz.prog 119 #[.agg #[.int .i64 o,.int .i64 a,.int .i64 b],.int .i64 pc] w (Nums (follB (o,a,b) pc) w):=by
 by_cases h26:o=26
 · subst h26
   go_enter Tryz.func119,Tryz.ntmps119
   go_wp2_with fail
   go_ret
   exact⟨qAe _ _,_,rfl,⟨rfl,.inl ⟨rfl,rfl⟩⟩⟩
 by_cases h23:o=23
 · subst h23
   go_enter Tryz.func119,Tryz.ntmps119
   go_wp2_with fail
   go_ret
   exact⟨(qAe _ _).alloc (by simp) _,_,rfl,qF0 (qAh (by simp)) (by simp)⟩
 by_cases h24:o=24
 · subst h24
   go_enter Tryz.func119,Tryz.ntmps119
   go_wp2_with fail
   go_ret
   exact⟨(qAe _ _).alloc (by simp) _,_,rfl,qJj (qAh (by simp)) (by simp)⟩
 · have e26:(o==26)=false:=by simpa using h26
   have e23:(o==23)=false:=by simpa using h23
   have e24:(o==24)=false:=by simpa using h24
   have HF:Hid (follB (o,a,b) pc=[pc+1]):=by show follB _ _=_;simp[follB,h26,h23,h24]
   clear h26 h23 h24
   go_enter Tryz.func119,Tryz.ntmps119
   go_wp2_with fail
   go_ret
   refine⟨(qAe _ _).alloc (by simp) _,_,rfl,?_⟩
   rw[HF.out]
   exact qF0 (qAh (by simp)) (by simp)
theorem qG8 (A:Option Addr) (n c:Nat) (l:List Int) (y:Int) (w:World) (hl:l.length=n) (hn:n≤1000) (h:∀j x,l[j]? =some x→∃a,A=some a∧w.cell? (a.add j)=some (.int .i64 x)):
 Calls Tryz.prog 152 #[.slice A n c,.int .i64 y] w fun e w'=>∃z:Int,e= .returned (.int .i64 z)∧w'=w∧(0≤z↔y∈l):=by
 have HL:=qAU hl
 have HS:=qAU h
 clear hl h
 go_enter Tryz.func152,Tryz.ntmps152
 go_wp2_with fail
 go_loop [8] (fun i=>∃k:Nat,k≤n∧i= .int .i64 (k:Nat)∧¬y∈l.take k) (fun i=>n-(intOf i).toNat)
 case atStart=>exact⟨0,qAn _,rfl,by simp⟩
 case round=>
  obtain⟨k,hk,rfl,hno⟩:=hrel
  have HN:=qAU hno
  clear hno
  by_cases hlt:k<n
  · obtain⟨x,hx⟩:∃x,l[k]? =some x:=⟨l[k]'qi,qAY _⟩
    obtain⟨a,rfl,hc⟩:=HS.out k x hx
    have HX:=qAU hx
    clear hx
    by_cases hxy:y=x
    · subst hxy
      go_wp2_with fail
      go_ret
      exact⟨_,rfl,rfl,fun _=>qAf HX.out,fun _=>by simp⟩
    · have e1:(y==x)=false:=by simpa using hxy
      have HXY:=qAU hxy
      clear hxy
      go_wp2_with fail
      refine⟨⟨k+1,by omega,by simp,?_⟩,by simp[intOf];omega⟩
      obtain⟨hk2,e⟩:=qAc.1 HX.out
      rw[qAo hk2,e]
      simp only[List.mem_append,List.mem_singleton,not_or]
      exact⟨HN.out,HXY.out⟩
  · obtain rfl:k=n:=by omega
    go_wp2_with fail
    go_ret
    refine⟨_,rfl,rfl,fun h=>absurd h (by omega),fun h=>absurd h ?_⟩
    have:=HN.out
    rwa [qAi qd] at this
theorem qEg (A:Option Addr) (n c:Nat) (l:List Int) (y:Int) (w:World) (hl:l.length=n) (hn:n≤1000) (h:∀j x,l[j]? =some x→∃a,A=some a∧w.cell? (a.add j)=some (.int .i64 x)):
 Calls Tryz.prog 120 #[.slice A n c,.int .i64 y] w fun e w'=>e= .returned (.bool (decide (y∈l)))∧w'=w:=by
 have HI:=qAU (qG8 A n c l y w hl hn h)
 clear h hl hn
 go_enter Tryz.func120,Tryz.ntmps120
 go_wp2_with fail
 refine(HI.out).mono ?_
 rintro e w1 ⟨z,rfl,rfl,hz⟩
 have HZ:=qAU hz
 clear hz
 go_wp2_with fail
 go_ret
 refine⟨?_,rfl⟩
 have:decide (0≤z)=decide (y∈l):=by rw[decide_eq_decide];exact HZ.out
 rw[←this]
 rfl
theorem qED {w:World} {N n:Nat} {v:Value} {l:List Int} (h:w.ownsRow N 3 1 v n (Is l)):∃A c,v= .slice A n c∧n=l.length∧n≤c∧(∀j x,l[j]? =some x→∃a,A=some a∧N≤a.block∧a.block<w.heap.size∧w.cell? (a.add j)=some (.int .i64 x)):=by
 have hn:n=l.length:=by have:=h.1;rw[qI3] at this;omega
 rcases h.2 with⟨rfl,h0⟩|⟨g,cap,cur,rfl,hb,hg,hnc,hcm,_,_⟩
 · refine⟨none,0,by rw[h0],hn,by omega,fun j x hx=> ?_⟩
   have:=(qAc.1 hx).1
   omega
 · exact⟨some ⟨g,0,none⟩,cap,rfl,hn,hnc,fun j x hx=>⟨_,rfl,hb,(Array.getElem?_eq_some_iff.1 hg).1,h.cells rfl j _ (qKl hx)⟩⟩
theorem qBb {x:Mod} {fn:Fn} (h:checkN x=0) (hf:fn∈x.funcs):fn.args.length≤4∧fn.locs.length≤8∧fn.code.length≤64∧∀i∈fn.code,goodIn i=true∧namedB x fn i=true:=by
 have hF:=qBE.1 (qA7 h)
 have ho:=hF.funcs fn hf
 simp only[fnOk,Bool.and_eq_true,qBd] at ho
 have hb:badM x=false:=by
  cases hb:badM x
  · rfl
  · rw[qDC (qA7 h) hb] at h;cases h
 refine⟨by omega,by omega,by omega,fun i hi=>⟨ho.2.2 i hi,?_⟩⟩
 cases hn:namedB x fn i
 · rw[qC3 hf (qGQ hi hn)] at hb;cases hb
 · rfl
theorem qJD {x:Mod} {p:Imp} (h:checkN x=0) (hf:p∈x.imps):p.args.length≤4:=by
 have ho:=(qBE.1 (qA7 h)).imps p hf
 simp only[impOk,Bool.and_eq_true,qBd] at ho
 omega
theorem qJC {x:Mod} {r:List Typ} (h:checkN x=0) (hf:r∈x.recs):r.length≤6:=by
 have ho:=(qBE.1 (qA7 h)).recs r hf
 simp only[recOk,qBd] at ho
 omega
def short2 (p:List Typ×List Typ):Prop:=p.1.length≤8∧p.2.length≤8
theorem qDR {c:Prop} [Decidable c] {a b:List Typ×List Typ} (ha:short2 a) (hb:short2 b):short2 (if c then a else b):=by
 split
 · exact ha
 · exact hb
theorem qGg {c:Prop} [Decidable c] {a b:Option (List Typ×List Typ)} (ha:short2 (a.getD ([],[]))) (hb:short2 (b.getD ([],[]))):short2 ((if c then a else b).getD ([],[])):=by
 split
 · exact ha
 · exact hb
theorem qHb {x:Mod} {f:Fn} {i:Ins} {s:List Typ} (h:checkN x=0):short2 (chgB x f i s):=by
 have e0:short2 ((none:Option (List Typ×List Typ)).getD ([],[])):=⟨by simp,by simp⟩
 unfold chgB
 refine qDR ⟨by simp,by simp⟩ (qDR ⟨by simp,by simp⟩ (qDR ⟨by simp,by simp⟩ ?_))
 unfold ruleB
 repeat(first
  |(refine qGg ?_ ?_
    (first
     |(refine⟨?_,?_⟩<;>(simp<;>done))
     |(split
       · rename_i g hg
         first
         |exact⟨by have:=(qBb h (qAf hg)).1;simp;omega,by simp⟩
         |exact⟨by have:=qJD h (qAf hg);simp;omega,by simp⟩
         |exact⟨by have:=qJC h (qAf hg);simp;omega,by simp⟩
       · exact e0)
     |(split<;>first|exact e0|(refine⟨?_,?_⟩<;>(simp<;>done))|(split<;>first|exact e0|(refine⟨?_,?_⟩<;>(simp<;>done))))))
  |(refine⟨?_,?_⟩<;>(simp<;>done)))
theorem qH5 {x:Mod} {f:Fn} {i:Ins} {p:Nat} (hn:namedB x f i=true) (hp:p<f.code.length):nextB f i p=if ((f.code.length:Nat):Int)∈follB i (p:Int) then none else some (follB i (p:Int)):=by
 unfold nextB follB
 by_cases h26:i.1=26
 · simp[h26]
 by_cases h23:i.1=23
 · simp[namedB,h23] at hn
   simp[h23]
   omega
 by_cases h24:i.1=24
 · simp[namedB,h24] at hn
   by_cases hq:f.code.length≤p+1
   · have hq2:((f.code.length:Nat):Int)=(p:Int)+1:=by omega
     simp[h24,hq,hq2]
   · have hq2:¬((f.code.length:Nat):Int)=(p:Int)+1:=by omega
     have hq3:¬((f.code.length:Nat):Int)=i.2.1:=by omega
     simp[h24,hq,hq2,hq3]
 · simp only[h26,h23,h24,if_false,List.mem_singleton]
   by_cases hq:f.code.length≤p+1
   · rw[if_pos hq,if_pos (by omega)]
   · rw[if_neg hq,if_neg (by omega)]
def joinT (a b:Typ):Typ:=(joinK a.1 a.2 b.1 b.2,joinN a.1 a.2 b.1 b.2)
theorem qBS {a b:Typ}:subT a b=true↔(a=b∨b.1=8∨(refB a.1=true∧refB b.1=true∧(a.1=6∨b.1=7))):=by
 obtain⟨a,a'⟩:=a
 obtain⟨b,b'⟩:=b
 simp only[subT,subB,Bool.or_eq_true,Bool.and_eq_true,beq_iff_eq,Prod.mk.injEq]
 constructor
 · rintro((h|h)|⟨⟨h1,h2⟩,h3⟩)
   · exact .inl h
   · exact .inr (.inl h)
   · exact .inr (.inr ⟨h1,h2,h3⟩)
 · rintro(h|h|⟨h1,h2,h3⟩)
   · exact .inl (.inl h)
   · exact .inl (.inr h)
   · exact .inr ⟨⟨h1,h2⟩,h3⟩
theorem qB3 (a b:Typ):(subT a b=true∧joinT a b=b)∨(subT a b=false∧subT b a=true∧joinT a b=a)∨(subT a b=false∧subT b a=false∧refB a.1=true∧refB b.1=true∧joinT a b=(7,0))∨(subT a b=false∧subT b a=false∧¬(refB a.1=true∧refB b.1=true)∧joinT a b=(8,0)):=by
 unfold joinT joinK joinN
 rw[show subB a.1 a.2 b.1 b.2=subT a b from rfl,show subB b.1 b.2 a.1 a.2=subT b a from rfl]
 cases h1:subT a b
 · cases h2:subT b a
   · cases h3:refB a.1<;>cases h4:refB b.1<;>simp
   · simp
 · simp
theorem qG3 (a b:Typ):subT b (joinT a b)=true:=by
 rcases qB3 a b with⟨_,e⟩|⟨_,h,e⟩|⟨_,_,_,h,e⟩|⟨_,_,_,e⟩<;>rw[e]
 · exact qCL b
 · exact h
 · exact qBS.2 (.inr (.inr ⟨h,by decide,.inr rfl⟩))
 · exact qBS.2 (.inr (.inl rfl))
theorem qG4 {a b c:Typ} (h1:subT a c=true) (h2:subT b c=true):subT (joinT a b) c=true:=by
 rcases qB3 a b with⟨_,e⟩|⟨_,_,e⟩|⟨n1,n2,ra,rb,e⟩|⟨n1,n2,hr,e⟩<;>rw[e]
 · exact h2
 · exact h1
 · rw[qBS] at h1 h2⊢
   rcases h1 with rfl|h1|⟨_,r1,h1⟩
   · rw[qBS.2 h2] at n2;cases n2
   · exact .inr (.inl h1)
   · rcases h2 with rfl|h2|⟨_,_,h2⟩
     · rw[qBS.2 (.inr (.inr ⟨ra,r1,h1⟩))] at n1;cases n1
     · exact .inr (.inl h2)
     · rcases h1 with h1|h1
       · rw[qBS.2 (.inr (.inr ⟨ra,rb,.inl h1⟩))] at n1;cases n1
       · exact .inr (.inr ⟨by decide,r1,.inr h1⟩)
 · rw[qBS] at h1 h2⊢
   rcases h1 with rfl|h1|⟨ra,r1,h1⟩
   · rw[qBS.2 h2] at n2;cases n2
   · exact .inr (.inl h1)
   · rcases h2 with rfl|h2|⟨rb,_,_⟩
     · rw[qBS.2 (.inr (.inr ⟨ra,r1,h1⟩))] at n1;cases n1
     · exact .inr (.inl h2)
     · exact absurd ⟨ra,rb⟩ hr
def canT (t:Typ):Prop:=t.1=6∨t.1=7∨t.1=8→t.2=0
theorem qKU {a b:Typ} (ha:canT a) (hb:canT b) (h1:subT a b=true) (h2:subT b a=true):a=b:=by
 obtain⟨a,a'⟩:=a
 obtain⟨b,b'⟩:=b
 simp only[canT] at ha hb
 rw[qBS] at h1 h2
 simp only[Prod.mk.injEq,refB,Bool.or_eq_true,beq_iff_eq] at h1 h2⊢
 omega
theorem qKT {a b:Typ} (ha:canT a) (hb:canT b):canT (joinT a b):=by
 rcases qB3 a b with⟨_,e⟩|⟨_,_,e⟩|⟨_,_,_,_,e⟩|⟨_,_,_,e⟩<;>rw[e]
 · exact hb
 · exact ha
 · intro _;rfl
 · intro _;rfl
def rkT (t:Typ):Nat:=if t.1=8 then 0 else if t.1=7 then 1 else if t.1=6 then 3 else 2
theorem rk_le (t:Typ):rkT t≤3:=by unfold rkT;repeat(first|(split;omega)|omega)
theorem rk_8 {t:Typ} (h:t.1=8):rkT t=0:=by simp[rkT,h]
theorem rk_7 {t:Typ} (h:t.1=7):rkT t=1:=by simp[rkT,h]
theorem rk_6 {t:Typ} (h:t.1=6):rkT t=3:=by simp[rkT,h]
theorem qJV {t:Typ} (h:¬t.1=8):1≤rkT t:=by
 unfold rkT
 rw[if_neg h]
 repeat(first|omega|split)
theorem qJU {t:Typ} (h:¬t.1=8) (h':¬t.1=7):2≤rkT t:=by
 unfold rkT
 rw[if_neg h,if_neg h']
 split<;>omega
theorem rk_low {t:Typ} (h:¬t.1=6):rkT t≤2:=by
 unfold rkT
 rw[if_neg h]
 repeat(first|omega|split)
theorem rk_join {a b:Typ} (ha:canT a) (hb:canT b):joinT a b=a∨rkT (joinT a b)<rkT a:=by
 rcases qB3 a b with⟨h,e⟩|⟨_,_,e⟩|⟨n1,n2,ra,rb,e⟩|⟨n1,n2,hr,e⟩<;>rw[e]
 · by_cases hab:a=b
   · exact .inl hab.symm
   · refine .inr ?_
     have same:a.1=b.1→a.1=6∨a.1=7∨a.1=8→False:=fun h1 h2=>hab (Prod.ext h1 ((ha h2).trans (hb (by rw[←h1];exact h2)).symm))
     rcases qBS.1 h with h|h8|⟨ra,rb,h6⟩
     · exact absurd h hab
     · rw[rk_8 h8]
       exact qJV fun h1=>same (h1.trans h8.symm) (.inr (.inr h1))
     · have a8:¬a.1=8:=fun h1=>by rw[h1] at ra;exact absurd ra zI
       by_cases h1:a.1=6
       · rw[rk_6 h1]
         have:=rk_low (t:=b) fun h2=>same (h1.trans h2.symm) (.inl h1)
         omega
       · have h7:b.1=7:=h6.resolve_left h1
         rw[rk_7 h7]
         exact qJU a8 fun h2=>same (h2.trans h7.symm) (.inr (.inl h2))
 · exact .inl rfl
 · refine .inr ?_
   have h7:¬a.1=7:=fun h=>by
    rw[qBS.2 (.inr (.inr ⟨rb,ra,.inr h⟩))] at n2
    cases n2
   have h8:¬a.1=8:=fun h1=>by rw[h1] at ra;exact absurd ra zI
   rw[rk_7 (t:=(7,0)) rfl]
   exact qJU h8 h7
 · refine .inr ?_
   have h8:¬a.1=8:=fun h=>by
    rw[qBS.2 (.inr (.inl h))] at n2
    cases n2
   rw[rk_8 (t:=(8,0)) rfl]
   exact qJV h8
def joinL:List Typ→List Typ→List Typ
 |a::xs,b::ys=>joinT a b::joinL xs ys
 |_,_=>[]
def canL (s:List Typ):Prop:=∀t∈s,canT t
def rkL:List Typ→Nat
 |[]=>0
 |t::ts=>rkT t+rkL ts
theorem qDX {a b:List Typ} (h:a.length=b.length):(joinL a b).length=a.length:=by
 induction a generalizing b with
 |nil=>rfl
 |cons x a ih=>
  cases b with
  |nil=>simp at h
  |cons y b=>simp only[joinL,List.length_cons,ih jL]
theorem qF6 {a b:List Typ} (h:a.length=b.length):belowT b (joinL a b)=true:=by
 induction a generalizing b with
 |nil=>cases b<;>simp[belowT,joinL] at h⊢
 |cons x a ih=>
  cases b with
  |nil=>simp at h
  |cons y b=>simp only[joinL,belowT,Bool.and_eq_true];exact⟨qG3 x y,ih jL⟩
theorem qF7 {a b c:List Typ} (h1:belowT a c=true) (h2:belowT b c=true):belowT (joinL a b) c=true:=by
 induction a generalizing b c with
 |nil=>
  cases c with
  |nil=>cases b<;>simp[belowT,joinL] at h2⊢
  |cons z c=>simp[belowT] at h1
 |cons x a ih=>
  cases c with
  |nil=>simp[belowT] at h1
  |cons z c=>
   cases b with
   |nil=>simp[belowT] at h2
   |cons y b=>
    simp only[belowT,joinL,Bool.and_eq_true] at h1 h2⊢
    exact⟨qG4 h1.1 h2.1,ih h1.2 h2.2⟩
theorem qGO {a b:List Typ} (ha:canL a) (hb:canL b) (h1:belowT a b=true) (h2:belowT b a=true):a=b:=by
 induction a generalizing b with
 |nil=>cases b<;>simp[belowT] at h1⊢
 |cons x a ih=>
  cases b with
  |nil=>simp[belowT] at h1
  |cons y b=>
   simp only[belowT,Bool.and_eq_true] at h1 h2
   rw[qKU (ha x (by simp)) (hb y (by simp)) h1.1 h2.1,ih (fun t ht=>ha t (by simp[ht])) (fun t ht=>hb t (by simp[ht])) h1.2 h2.2]
theorem qIv {a b:List Typ} (ha:canL a) (hb:canL b):canL (joinL a b):=by
 induction a generalizing b with
 |nil=>intro t ht;cases b<;>simp[joinL] at ht
 |cons x a ih=>
  cases b with
  |nil=>intro t ht;simp[joinL] at ht
  |cons y b=>
   intro t ht
   simp only[joinL,List.mem_cons] at ht
   rcases ht with rfl|ht
   · exact qKT (ha x (by simp)) (hb y (by simp))
   · exact ih (fun t ht=>ha t (by simp[ht])) (fun t ht=>hb t (by simp[ht])) t ht
theorem rkL_le (s:List Typ):rkL s≤3*s.length:=by
 induction s with
 |nil=>simp[rkL]
 |cons t s ih=>
  have:=rk_le t
  simp only[rkL,List.length_cons]
  omega
theorem qJY {a b:List Typ} (ha:canL a) (hb:canL b) (h:a.length=b.length):joinL a b=a∨rkL (joinL a b)<rkL a:=by
 have le:∀{a b:List Typ},canL a→canL b→a.length=b.length→(joinL a b=a∧rkL (joinL a b)=rkL a)∨rkL (joinL a b)<rkL a:=by
  intro a
  induction a with
  |nil=>intro b _ _ _;exact .inl ⟨by cases b<;>rfl,by cases b<;>rfl⟩
  |cons x a ih=>
   intro b ha hb h
   cases b with
   |nil=>simp at h
   |cons y b=>
    have i:=ih (b:=b) (fun t ht=>ha t (by simp[ht])) (fun t ht=>hb t (by simp[ht])) jL
    have j:=rk_join (ha x (by simp)) (hb y (by simp))
    simp only[joinL,rkL]
    rcases i with⟨i1,i2⟩|i
    · rcases j with j|j
      · exact .inl ⟨by rw[i1,j],by rw[i2,j]⟩
      · exact .inr (by omega)
    · rcases j with j|j
      · exact .inr (by rw[j];omega)
      · exact .inr (by omega)
 rcases le ha hb h with⟨h,_⟩|h
 · exact .inl h
 · exact .inr h
theorem qG6 {a b:List Typ} (h:a.length=b.length) (hj:joinL a b=a):belowT b a=true:=by
 have:=qF6 h
 rwa [hj] at this
abbrev Shp:=Nat→Option (List Typ)
def leO (a b:Option (List Typ)):Prop:=∀s,a=some s→∃r,b=some r∧belowT s r=true
def leS (S R:Shp):Prop:=∀p,leO (S p) (R p)
def okAt (m:Mod) (fn:Fn) (S:Shp) (p:Nat):Prop:=∀s,S p=some s→∃i t l,fn.code[p]? =some i∧insB8 m fn i p s=(0,t,l)∧∀k∈l,leO (some t) (S k.toNat)
structure RightF (m:Mod) (fn:Fn) (S:Shp):Prop where
 zero:S 0=some []
 at_:∀p,p<fn.code.length→okAt m fn S p
structure Run (m:Mod) (fn:Fn) (S:Shp):Prop where
 zero:S 0=some []
 out:∀p,fn.code.length≤p→S p=none
 least:∀R,RightF m fn R→leS S R
 can:∀p s,S p=some s→canL s∧s.length≤8
def S0:Shp:=fun p=>if p=0 then some [] else none
theorem qHk {m:Mod} {fn:Fn} (h:0<fn.code.length):Run m fn S0:=by
 refine⟨rfl,fun p hp=> ?_,fun R hR p s hs=> ?_,fun p s hs=> ?_⟩
 · unfold S0;rw[if_neg (by omega)]
 · unfold S0 at hs
   split at hs
   · rename_i hp
     subst hp
     injection hs with hs
     subst hs
     exact⟨[],hR.zero,rfl⟩
   · cases hs
 · unfold S0 at hs
   split at hs
   · injection hs with hs
     subst hs
     exact⟨fun t ht=>by simp at ht,by simp⟩
   · cases hs
def Und (m:Mod) (fn:Fn) (p:Nat) (s:List Typ):Prop:=∀R,RightF m fn R→leO (some s) (R p)
theorem Run.und {m:Mod} {fn:Fn} {S:Shp} {p:Nat} {s:List Typ} (h:Run m fn S) (hs:S p=some s):Und m fn p s:=fun R hR=>by
 have:=h.least R hR p
 rwa [hs] at this
theorem qDJ {m:Mod} {fn:Fn} {R:Shp} {p:Nat} {s:List Typ} {i:Ins} (hR:RightF m fn R) (hs:Und m fn p s) (hi:fn.code[p]? =some i):∃t l,insB8 m fn i p s=(0,t,l)∧∀k∈l,leO (some t) (R k.toNat):=by
 obtain⟨r,hr,hb⟩:=hs R hR s rfl
 obtain⟨i',t',l,hi',hf,ht⟩:=hR.at_ p (qAc.1 hi).1 r hr
 rw[hi] at hi'
 injection hi' with hi'
 subst hi'
 obtain⟨t,h1,h2⟩:=qIA hb hf
 refine⟨t,l,h1,fun k hk q hq=> ?_⟩
 injection hq with hq
 subst hq
 obtain⟨u,hu,h3⟩:=ht k hk t' rfl
 exact⟨u,hu,qDN h2 h3⟩
theorem qHj {m:Mod} {fn:Fn} {p:Nat} {s:List Typ} {i:Ins} (hs:Und m fn p s) (hi:fn.code[p]? =some i) (he:(insB8 m fn i p s).1≠0):¬∃R,RightF m fn R:=by
 rintro⟨R,hR⟩
 obtain⟨t,l,hf,-⟩:=qDJ hR hs hi
 rw[hf] at he
 exact he rfl
theorem qFj {m:Mod} {fn:Fn} {S:Shp} {p k:Nat} {s t u:List Typ} {l:List Int} {i:Ins} (h:Run m fn S) (hs:Und m fn p s) (hi:fn.code[p]? =some i) (hf:insB8 m fn i p s=(0,t,l)) (hk:(k:Int)∈l) (hu:S k=some u) (hn:u.length≠t.length):¬∃R,RightF m fn R:=by
 rintro⟨R,hR⟩
 obtain⟨t',l',hf',ht⟩:=qDJ hR hs hi
 rw[hf] at hf'
 simp only[Prod.mk.injEq,true_and] at hf'
 obtain⟨rfl,rfl⟩:=hf'
 obtain⟨r,hr,h1⟩:=ht _ hk t rfl
 rw[Int.toNat_natCast] at hr
 obtain⟨r',hr',h2⟩:=h.least R hR k u hu
 rw[hr] at hr'
 injection hr' with hr'
 subst hr'
 exact hn ((qBe h2).trans (qBe h1).symm)
def putS (S:Shp) (k:Nat) (s:List Typ):Shp:=fun p=>if p=k then some s else S p
theorem qCw (S:Shp) (k:Nat) (s:List Typ):putS S k s k=some s:=by simp[putS]
theorem qB6 {S:Shp} {k p:Nat} {s:List Typ} (h:p≠k):putS S k s p=S p:=by simp[putS,h]
theorem run_new {m:Mod} {fn:Fn} {S:Shp} {p k:Nat} {s t:List Typ} {l:List Int} {i:Ins} (h:Run m fn S) (hs:Und m fn p s) (hi:fn.code[p]? =some i) (hf:insB8 m fn i p s=(0,t,l)) (hk:(k:Int)∈l) (hu:S k=none) (hc:canL t) (h8:t.length≤8) (hlt:k<fn.code.length):Run m fn (putS S k t):=by
 have hk0:(0:Nat)≠k:=fun e=>by rw[←e,h.zero] at hu;cases hu
 refine⟨by rw[qB6 hk0];exact h.zero,fun q hq=>by rw[qB6 (by omega)];exact h.out q hq,fun R hR q=> ?_,fun q r hq=> ?_⟩
 · by_cases e:q=k
   · subst e
     rw[qCw]
     obtain⟨t',l',hf',ht⟩:=qDJ hR hs hi
     rw[hf] at hf'
     simp only[Prod.mk.injEq,true_and] at hf'
     obtain⟨rfl,rfl⟩:=hf'
     have:=ht _ hk
     rwa [Int.toNat_natCast] at this
   · rw[qB6 e]
     exact h.least R hR q
 · by_cases e:q=k
   · subst e
     rw[qCw] at hq
     injection hq with hq
     subst hq
     exact⟨hc,h8⟩
   · rw[qB6 e] at hq
     exact h.can q r hq
theorem qJH {m:Mod} {fn:Fn} {S:Shp} {p k:Nat} {s t u:List Typ} {l:List Int} {i:Ins} (h:Run m fn S) (hs:Und m fn p s) (hi:fn.code[p]? =some i) (hf:insB8 m fn i p s=(0,t,l)) (hk:(k:Int)∈l) (hu:S k=some u) (hn:u.length=t.length) (hc:canL t):Run m fn (putS S k (joinL u t)):=by
 have hlt:k<fn.code.length:=by
  rcases Nat.lt_or_ge k fn.code.length with h1|h1
  · exact h1
  · rw[h.out k h1] at hu;cases hu
 refine⟨?_,fun q hq=>by rw[qB6 (by omega)];exact h.out q hq,fun R hR q=> ?_,fun q r hq=> ?_⟩
 · by_cases e:0=k
   · subst e
     rw[h.zero] at hu
     injection hu with hu
     subst hu
     rw[qCw]
     cases t<;>rfl
   · rw[qB6 e]
     exact h.zero
 · by_cases e:q=k
   · subst e
     rw[qCw]
     obtain⟨t',l',hf',ht⟩:=qDJ hR hs hi
     rw[hf] at hf'
     simp only[Prod.mk.injEq,true_and] at hf'
     obtain⟨rfl,rfl⟩:=hf'
     obtain⟨r,hr,h1⟩:=ht _ hk t rfl
     rw[Int.toNat_natCast] at hr
     obtain⟨r',hr',h2⟩:=h.least R hR q u hu
     rw[hr] at hr'
     injection hr' with hr'
     subst hr'
     intro z hz
     injection hz with hz
     subst hz
     exact⟨r,hr,qF7 h2 h1⟩
   · rw[qB6 e]
     exact h.least R hR q
 · by_cases e:q=k
   · subst e
     rw[qCw] at hq
     injection hq with hq
     subst hq
     obtain⟨h1,h2⟩:=h.can q u hu
     exact⟨qIv h1 hc,by rw[qDX hn];exact h2⟩
   · rw[qB6 e] at hq
     exact h.can q r hq
theorem qJG {m:Mod} {fn:Fn} {S T:Shp} (h:Run m fn S) (h':Run m fn T) (hS:RightF m fn S) (hT:RightF m fn T):∀p,S p=T p:=fun p=>by
 cases hs:S p with
 |none=>
  cases ht:T p with
  |none=>rfl
  |some t=>
   obtain⟨r,hr,-⟩:=h'.least S hS p t ht
   rw[hs] at hr
   cases hr
 |some s=>
  obtain⟨t,ht,h1⟩:=h.least T hT p s hs
  obtain⟨r,hr,h2⟩:=h'.least S hS p t ht
  rw[hs] at hr
  injection hr with hr
  subst hr
  rw[ht,qGO (h.can p s hs).1 (h'.can p t ht).1 h1 h2]
def rkO:Option (List Typ)→Nat
 |none=>25
 |some s=>rkL s
def rkS (S:Shp):Nat→Nat
 |0=>0
 |n+1=>rkS S n+rkO (S n)
theorem qHV {S:Shp} {k:Nat} {s:List Typ} (n:Nat):rkS (putS S k s) n+(if k<n then rkO (S k) else 0)=rkS S n+(if k<n then rkL s else 0):=by
 induction n with
 |zero=>simp[rkS]
 |succ n ih=>
  simp only[rkS]
  by_cases e:n=k
  · subst e
    rw[qCw,if_pos (by omega),if_pos (by omega)]
    rw[if_neg (by omega),if_neg (by omega)] at ih
    show rkS (putS S n s) n+rkL s+rkO (S n)=rkS S n+rkO (S n)+rkL s
    omega
  · rw[qB6 e]
    by_cases h:k<n
    · rw[if_pos h,if_pos h] at ih
      rw[if_pos (by omega),if_pos (by omega)]
      omega
    · rw[if_neg h,if_neg h] at ih
      rw[if_neg (by omega),if_neg (by omega)]
      omega
theorem rkS_new {S:Shp} {k n:Nat} {t:List Typ} (hk:k<n) (hu:S k=none) (h8:t.length≤8):rkS (putS S k t) n<rkS S n:=by
 have h:=qHV (S:=S) (k:=k) (s:=t) n
 rw[if_pos hk,if_pos hk,hu] at h
 have:=rkL_le t
 simp only[rkO] at h
 omega
theorem qJX {S:Shp} {k n:Nat} {t u:List Typ} (hk:k<n) (hu:S k=some u) (ha:canL u) (hb:canL t) (hn:u.length=t.length) (hne:joinL u t≠u):rkS (putS S k (joinL u t)) n<rkS S n:=by
 have h:=qHV (S:=S) (k:=k) (s:=joinL u t) n
 rw[if_pos hk,if_pos hk,hu] at h
 have:=(qJY ha hb hn).resolve_left hne
 simp only[rkO] at h
 omega
theorem qCR {r:Int} {t:Typ} (h:goodT r t=true):canT t:=by
 obtain⟨k,n⟩:=t
 simp only[goodT,goodB] at h
 intro hk
 simp only at hk⊢
 split at h
 · simpa using h
 · split at h
   · omega
   · split at h
     · omega
     · cases h
theorem qCF {t:Typ} (h:canT t):canL [t]:=fun u hu=>by simp at hu;subst hu;exact h
theorem qGJ {t u:Typ} (h:canT t) (h':canT u):canL [t,u]:=fun v hv=>by simp at hv;rcases hv with rfl|rfl<;>assumption
theorem qGK:canL []:=fun t ht=>by simp at ht
theorem qGL {s t:List Typ} (h:canL s) (h':canL t):canL (s++t):=fun u hu=>by
 rcases List.mem_append.1 hu with h1|h1
 · exact h u h1
 · exact h' u h1
theorem qIu {s:List Typ} (h:canL s) (n:Nat):canL (s.take n):=fun u hu=>h u (List.mem_of_mem_take hu)
theorem qCK (k:Int):canT (k,0):=fun _=>rfl
theorem can_rec (n:Int):canT (4,n):=fun h=>by simp at h
theorem qHB {m:Mod} {f:Fn} (hc:checkN m=0) (hf:f∈m.funcs):canL f.args∧canL f.locs∧canT f.ret:=by
 have ho:=(qBE.1 (qA7 hc)).funcs f hf
 simp only[fnOk,Bool.and_eq_true,qBd] at ho
 exact⟨fun t ht=>qCR (ho.1.1.1.2 t ht),fun t ht=>qCR (ho.1.2.2 t ht),qCR ho.1.1.2⟩
theorem imp_can {m:Mod} {p:Imp} (hc:checkN m=0) (hf:p∈m.imps):canT p.ret:=by
 have ho:=(qBE.1 (qA7 hc)).imps p hf
 simp only[impOk,Bool.and_eq_true] at ho
 exact qCR ho.2
theorem rec_can {m:Mod} {r:List Typ} (hc:checkN m=0) (hf:r∈m.recs):canL r:=by
 have ho:=(qBE.1 (qA7 hc)).recs r hf
 simp only[recOk,qBd] at ho
 exact fun t ht=>qCR (ho.2 t ht)
theorem loc_can {m:Mod} {f:Fn} (n:Int) (hc:checkN m=0) (hf:f∈m.funcs):canT (locB f n):=by
 obtain⟨h1,h2,-⟩:=qHB hc hf
 unfold locB
 split
 · exact qCK 8
 · cases e:(f.args++f.locs)[n.toNat]? with
   |none=>exact qCK 8
   |some t=>exact qGL h1 h2 t (qAf e)
theorem fld_can {m:Mod} (a b:Int) (hc:checkN m=0):canT (fldB m a b):=by
 unfold fldB
 cases e:m.recs[a.toNat]? with
 |none=>simp;exact qCK 0
 |some r=>
  simp only[Option.getD_some]
  cases e2:r[b.toNat]? with
  |none=>exact qCK 0
  |some t=>exact rec_can hc (qAf e) t (qAf e2)
def canO (o:Option (List Typ×List Typ)):Prop:=∀p,o=some p→canL p.2
theorem qKV {c:Prop} [Decidable c] {a b:Option (List Typ×List Typ)} (ha:canO a) (hb:canO b):canO (if c then a else b):=by
 split
 · exact ha
 · exact hb
theorem qBU {i o:List Typ} (h:canL o):canO (some (i,o)):=fun p hp=>by
 injection hp with hp
 subst hp
 exact h
theorem qDb:canO none:=fun p hp=>by cases hp
theorem qKW {s r:List Typ} (h:canL s) (e:s.reverse=r):canL r:=fun t ht=>h t (List.mem_reverse.1 (by rw[e];exact ht))
theorem qJJ {m:Mod} {f:Fn} {i:Ins} {s:List Typ} (hc:checkN m=0) (hf:f∈m.funcs) (hs:canL s):canO (ruleB m f i s):=by
 obtain⟨h1,h2,h3⟩:=qHB hc hf
 unfold ruleB
 repeat(refine qKV ?_ ?_
        first
        |exact qBU qGK
        |exact qBU (qCF (qCK _))
        |exact qBU (qGJ (qCK _) (qCK _))
        |exact qBU (qCF (loc_can _ hc hf))
        |exact qBU (qCF (fld_can _ _ hc))
        |(split
          · rename_i g hg
            first
            |exact qBU (qCF (qHB hc (qAf hg)).2.2)
            |exact qBU (qCF (imp_can hc (qAf hg)))
            |exact qBU (qCF (can_rec _))
          · exact qDb)
        |(split
          · rename_i t r e
            have hr:=qKW hs e
            first
            |exact qBU (qGJ (hr _ (by simp)) (hr _ (by simp)))
            |(split
              · exact qBU qGK
              · exact qDb)
          · exact qDb))
 exact qBU (qCF (qCK _))
theorem qKB {m:Mod} {f:Fn} {i:Ins} {p:Nat} {s t:List Typ} {l:List Int} (hc:checkN m=0) (hf:f∈m.funcs) (hs:canL s) (h:insB8 m f i p s=(0,t,l)):canL t∧t.length≤8:=by
 unfold insB8 at h
 split at h
 · simp at h
 · rename_i ins outs hr
   split at h
   · simp at h
   · rename_i t2 hm
     split at h
     · simp at h
     · simp only[Prod.mk.injEq,true_and] at h
       obtain⟨rfl,-⟩:=h
       unfold movB at hm
       split at hm
       · rename_i h3
         injection hm with hm
         subst hm
         refine⟨qGL (qIu hs _) (qJJ hc hf hs _ hr),?_⟩
         rw[List.length_append,List.length_take]
         omega
       · cases hm
theorem qEM {m:Mod} {f:Fn} {i:Ins} {p:Nat} {s t:List Typ} {l:List Int} (hc:checkN m=0) (hf:f∈m.funcs) (hi:f.code[p]? =some i) (h:insB8 m f i p s=(0,t,l)):∀k∈l,0≤k∧k.toNat<f.code.length:=by
 obtain⟨-,-,-,q4⟩:=qBb hc hf
 obtain⟨hg,hn⟩:=q4 i (qAf hi)
 obtain⟨o1,x1,y1,e1,e2,e3,-,-,-⟩:=qBB hg
 have hp:=(qAc.1 hi).1
 have hl:nextB f i p=some l:=by
  unfold insB8 at h
  split at h
  · simp at h
  · split at h
    · simp at h
    · split at h
      · simp at h
      · rename_i l' hl
        simp only[Prod.mk.injEq,true_and] at h
        rw[hl,h.2]
 intro k hk
 by_cases h26:i.1=26
 · simp[nextB,h26] at hl
   subst hl
   simp at hk
 by_cases h23:i.1=23
 · simp[nextB,h23] at hl
   simp[namedB,h23] at hn
   subst hl
   simp at hk
   omega
 by_cases hlast:f.code.length≤p+1
 · simp[nextB,h26,h23,hlast] at hl
 by_cases h24:i.1=24
 · simp[nextB,h24,hlast] at hl
   simp[namedB,h24] at hn
   subst hl
   simp at hk
   omega
 · simp[nextB,h26,h23,h24,hlast] at hl
   subst hl
   simp at hk
   omega
abbrev Shape:=Bool×List Typ
def shO (x:Shape):Option (List Typ):=if x.1 then some x.2 else none
def toS (l:List Shape):Shp:=fun p=>(l[p]?).bind shO
theorem qBK {l:List Shape} {p:Nat} {s:List Typ} (h:l[p]? =some (true,s)):toS l p=some s:=by simp[toS,h,shO]
theorem qDQ {l:List Shape} {p:Nat} {s:List Typ} (h:l[p]? =some (false,s)):toS l p=none:=by simp[toS,h,shO]
theorem qDG {l:List Shape} {p:Nat} {s:List Typ} (h:toS l p=some s):l[p]? =some (true,s):=by
 unfold toS at h
 cases e:l[p]? with
 |none=>rw[e] at h;cases h
 |some x=>
  obtain⟨b,u⟩:=x
  rw[e] at h
  cases b
  · simp[shO] at h
  · simp[shO] at h;subst h;rfl
theorem qDH {l:List Shape} {p:Nat} {s:List Typ} (hp:p<l.length):toS (l.set p (true,s))=putS (toS l) p s:=by
 funext q
 unfold toS putS
 rw[List.getElem?_set]
 by_cases e:p=q
 · subst e
   simp[hp,shO]
 · rw[if_neg e,if_neg (fun h=>e h.symm)]
structure Least (m:Mod) (fn:Fn) (l:List Shape):Prop where
 len:l.length=fn.code.length
 out:∀(p:Nat) (s:List Typ),l[p]? =some (false,s)→s=[]
 run:Run m fn (toS l)
 ok:∀p,p<fn.code.length→okAt m fn (toS l) p
theorem Least.right {m:Mod} {fn:Fn} {l:List Shape} (h:Least m fn l):RightF m fn (toS l):=⟨h.run.zero,h.ok⟩
theorem Least.same {m:Mod} {fn:Fn} {l l':List Shape} (h:Least m fn l) (h':Least m fn l'):l=l':=by
 have hs:=qJG h.run h'.run h.right h'.right
 apply List.ext_getElem?
 intro p
 have hp:=hs p
 by_cases hlt:p<l.length
 · have hlt':p<l'.length:=by rw[h'.len,←h.len];exact hlt
   obtain⟨⟨b,s⟩,e⟩:∃x,l[p]? =some x:=⟨_,qAY hlt⟩
   obtain⟨⟨b',s'⟩,e'⟩:∃x,l'[p]? =some x:=⟨_,qAY hlt'⟩
   rw[e,e']
   cases b<;>cases b'
   · rw[h.out p s e,h'.out p s' e']
   · rw[qDQ e,qBK e'] at hp;cases hp
   · rw[qBK e,qDQ e'] at hp;cases hp
   · rw[qBK e,qBK e'] at hp;injection hp with hp;rw[hp]
 · rw[List.getElem?_eq_none (by omega),List.getElem?_eq_none (by rw[h'.len,←h.len];omega)]
def Never (m:Mod) (fn:Fn):Prop:=¬∃R,RightF m fn R
structure LeastM (m:Mod) (L:List (List Shape)):Prop where
 len:L.length=m.funcs.length
 at_:∀(j:Nat) (fn:Fn) (l:List Shape),m.funcs[j]? =some fn→L[j]? =some l→Least m fn l
def NeverM (m:Mod):Prop:=∃fn∈m.funcs,Never m fn
theorem LeastM.get {m:Mod} {L:List (List Shape)} (h:LeastM m L) {j:Nat} {fn:Fn} (hf:m.funcs[j]? =some fn):∃l,L[j]? =some l∧Least m fn l:=by
 have hj:=(qAc.1 hf).1
 have e:L[j]? =some (L[j]'(by rw[h.len];exact hj)):=qAY _
 exact⟨_,e,h.at_ j fn _ hf e⟩
theorem LeastM.same {m:Mod} {L L':List (List Shape)} (h:LeastM m L) (h':LeastM m L'):L=L':=by
 apply List.ext_getElem?
 intro j
 by_cases hj:j<m.funcs.length
 · have hf:m.funcs[j]? =some m.funcs[j]:=qAY hj
   obtain⟨l,e,k⟩:=h.get hf
   obtain⟨l',e',k'⟩:=h'.get hf
   rw[e,e',k.same k']
 · rw[List.getElem?_eq_none (by rw[h.len];omega),List.getElem?_eq_none (by rw[h'.len];omega)]
structure RightM (m:Mod) (L:List (List Shape)):Prop where
 len:L.length=m.funcs.length
 at_:∀(j:Nat) (fn:Fn) (l:List Shape),m.funcs[j]? =some fn→L[j]? =some l→l.length=fn.code.length∧(∀x∈l,x.2.length≤8)∧RightF m fn (toS l)
theorem RightM.get {m:Mod} {L:List (List Shape)} (h:RightM m L) {j:Nat} {fn:Fn} (hf:m.funcs[j]? =some fn):∃l,L[j]? =some l∧l.length=fn.code.length∧(∀x∈l,x.2.length≤8)∧RightF m fn (toS l):=by
 have hj:=(qAc.1 hf).1
 have e:L[j]? =some (L[j]'(by rw[h.len];exact hj)):=qAY _
 exact⟨_,e,h.at_ j fn _ hf e⟩
theorem Least.short {m:Mod} {fn:Fn} {l:List Shape} (h:Least m fn l):∀x∈l,x.2.length≤8:=by
 rintro⟨b,s⟩ hx
 obtain⟨p,hp⟩:=qA6.1 hx
 cases b
 · rw[h.out p s hp];simp
 · exact(h.run.can p s (qBK hp)).2
theorem LeastM.right {m:Mod} {L:List (List Shape)} (h:LeastM m L):RightM m L:=
 ⟨h.len,fun j fn l hf hl=>⟨(h.at_ j fn l hf hl).len,(h.at_ j fn l hf hl).short,(h.at_ j fn l hf hl).right⟩⟩
theorem LeastM.least {m:Mod} {L R:List (List Shape)} (h:LeastM m L) (h':RightM m R) {j p:Nat} {l:List Shape} {s:List Typ} (hl:L[j]? =some l) (hp:l[p]? =some (true,s)):∃r t,R[j]? =some r∧r[p]? =some (true,t)∧belowT s t=true:=by
 have hj:j<m.funcs.length:=by rw[←h.len];exact(qAc.1 hl).1
 have hf:m.funcs[j]? =some m.funcs[j]:=qAY hj
 obtain⟨r,hr,-,-,hR⟩:=h'.get hf
 obtain⟨t,ht,hb⟩:=(h.at_ j _ l hf hl).run.least _ hR p s (qBK hp)
 exact⟨r,t,hr,qDG ht,hb⟩
def putF (t:List Typ):List Int→List Shape→Option (List Shape)
 |[],l=>some l
 |k::ks,l=>
  match l[k.toNat]? with
  |none=>none
  |some (false,_)=>putF t ks (l.set k.toNat (true,t))
  |some (true,u)=>if u.length=t.length then putF t ks (l.set k.toNat (true,joinL u t)) else none
def stepF (m:Mod) (fn:Fn) (l:List Shape) (p:Nat):Option (List Shape):=
 match l[p]?,fn.code[p]? with
 |some (true,s),some i=>if (insB8 m fn i p s).1=0 then putF (insB8 m fn i p s).2.1 (insB8 m fn i p s).2.2 l else none
 |_,_=>some l
def stepsF (m:Mod) (fn:Fn):List Nat→List Shape→Option (List Shape)
 |[],l=>some l
 |p::ps,l=>(stepF m fn l p).bind (stepsF m fn ps)
def okF (m:Mod) (fn:Fn) (l:List Shape) (p:Nat):Bool:=
 match l[p]?,fn.code[p]? with
 |some (true,s),some i=>(insB8 m fn i p s).1==0 && (insB8 m fn i p s).2.2.all fun k=>match l[k.toNat]? with
  |some (true,u)=>belowT (insB8 m fn i p s).2.1 u
  |_=>false
 |some (true,_),none=>false
 |_,_=>true
def outF (x:Shape):Bool:=x.1 || x.2.isEmpty
structure RunF (m:Mod) (fn:Fn) (l:List Shape):Prop where
 len:l.length=fn.code.length
 run:Run m fn (toS l)
def beginF (n:Nat):List Shape:=(List.replicate n (false,[])).set 0 (true,[])
theorem qHN {m:Mod} {fn:Fn} (h:0<fn.code.length):RunF m fn (beginF fn.code.length):=by
 refine⟨by simp[beginF],?_⟩
 have e:toS (beginF fn.code.length)=S0:=by
  unfold beginF
  rw[qDH jL]
  funext p
  unfold putS S0
  by_cases e:p=0
  · rw[if_pos e,if_pos e]
  · rw[if_neg e,if_neg e]
    unfold toS
    rw[List.getElem?_replicate]
    split<;>simp[shO]
 rw[e]
 exact qHk h
theorem okF_ok {m:Mod} {fn:Fn} {l:List Shape} {p:Nat} (h:okF m fn l p=true):okAt m fn (toS l) p:=by
 intro s hs
 have hs:=qDG hs
 unfold okF at h
 rw[hs] at h
 cases hi:fn.code[p]? with
 |none=>rw[hi] at h;simp at h
 |some i=>
  rw[hi] at h
  simp only[Bool.and_eq_true,beq_iff_eq,List.all_eq_true] at h
  refine⟨i,_,_,rfl,Prod.ext h.1 rfl,fun k hk z hz=> ?_⟩
  injection hz with hz
  subst hz
  have:=h.2 k hk
  split at this
  · rename_i u hu
    exact⟨u,qBK hu,this⟩
  · cases this
def all2 {α β:Type} (f:α→β→Bool):List α→List β→Bool
 |[],[]=>true
 |a::xs,b::ys=>f a b && all2 f xs ys
 |_,_=>false
theorem qKj {α β:Type} {f:α→β→Bool} {xs:List α} {ys:List β} (h:all2 f xs ys=true):xs.length=ys.length:=by
 induction xs generalizing ys with
 |nil=>cases ys<;>simp[all2] at h⊢
 |cons x xs ih=>
  cases ys with
  |nil=>simp[all2] at h
  |cons y ys=>simp only[all2,Bool.and_eq_true] at h;simp[ih h.2]
theorem all2_ne {α β:Type} {f:α→β→Bool} {xs:List α} {ys:List β} (h:xs.length≠ys.length):all2 f xs ys=false:=by
 cases e:all2 f xs ys
 · rfl
 · exact absurd (qKj e) h
theorem all2_no {α β:Type} {f:α→β→Bool} {xs:List α} {ys:List β} {k:Nat} {x:α} {y:β} (hx:xs[k]? =some x) (hy:ys[k]? =some y) (h:f x y=false):all2 f xs ys=false:=by
 induction xs generalizing ys k with
 |nil=>simp at hx
 |cons a xs ih=>
  cases ys with
  |nil=>simp at hy
  |cons b ys=>
   cases k with
   |zero=>
    simp at hx hy
    subst hx hy
    simp[all2,h]
   |succ k=>
    simp only[all2,ih (by simpa using hx) (by simpa using hy),Bool.and_false]
theorem qKk {α β:Type} {f:α→β→Bool} {xs:List α} {ys:List β} {x:α} {y:β} (h:all2 f xs ys=true) (hf:f x y=true):all2 f (xs++[x]) (ys++[y])=true:=by
 induction xs generalizing ys with
 |nil=>cases ys<;>simp[all2,hf] at h⊢
 |cons a xs ih=>
  cases ys with
  |nil=>simp[all2] at h
  |cons b ys=>
   simp only[all2,Bool.and_eq_true,List.cons_append] at h⊢
   exact⟨h.1,ih h.2⟩
theorem qI1 {α β:Type} {f:α→β→Bool} {xs:List α} {ys:List β} {k:Nat} {x:α} {y:β} (h:all2 f (xs.take k) (ys.take k)=true) (hx:xs[k]? =some x) (hy:ys[k]? =some y) (hf:f x y=true):all2 f (xs.take (k+1)) (ys.take (k+1))=true:=by
 obtain⟨h1,rfl⟩:=qAc.1 hx
 obtain⟨h2,rfl⟩:=qAc.1 hy
 rw[qAo h1,qAo h2]
 exact qKk h hf
theorem qI2 {α β:Type} {f:α→β→Bool} {xs:List α} {ys:List β} {n:Nat} (h:all2 f (xs.take n) (ys.take n)=true) (hx:xs.length=n) (hy:ys.length=n):all2 f xs ys=true:=by
 rwa [qAi (by omega),qAi (by omega)] at h
def hasT (s:Stt) (v:Nat) (t:Typ):Bool:=
 if t.1=1∨t.1=8 then true
 else if t.1=5 then (match s.hn[v]? with|some h=>decide (h.kind=t.2)|none=>false)
 else if v=0 then true
 else if t.1=6 then false
 else match s.hp[v-1]? with
  |some o=>decide (t.1=7∨(t.1=o.kind∧t.2=o.n))
  |none=>false
theorem qGD {s:Stt} {v:Nat} {t:Typ} (h:t.1=1∨t.1=8):hasT s v t=true:=by simp[hasT,h]
theorem qJ5 {s:Stt} {v:Nat} {t:Typ} {x:Hnd} (h:t.1=5) (hx:s.hn[v]? =some x):hasT s v t=decide (x.kind=t.2):=by simp[hasT,h,hx]
theorem qGE {s:Stt} {v:Nat} {t:Typ} (h:t.1=5) (hx:s.hn.length≤v):hasT s v t=false:=by simp[hasT,h,List.getElem?_eq_none hx]
theorem qEs {s:Stt} {t:Typ} (h:t.1≠5):hasT s 0 t=true:=by simp[hasT,h]
theorem qIK {s:Stt} {v:Nat} {t:Typ} (h:t.1=6):hasT s v t=decide (v=0):=by
 by_cases e:v=0
 · simp[hasT,h,e]
 · simp[hasT,h,e]
theorem qJ3 {s:Stt} {v:Nat} {t:Typ} {o:Ob} (h1:t.1≠1) (h2:t.1≠8) (h3:t.1≠5) (h4:v≠0) (h5:t.1≠6) (ho:s.hp[v-1]? =some o):hasT s v t=decide (t.1=7∨(t.1=o.kind∧t.2=o.n)):=by simp[hasT,h1,h2,h3,h4,h5,ho]
theorem qJ4 {s:Stt} {v:Nat} {t:Typ} (h1:t.1≠1) (h2:t.1≠8) (h3:t.1≠5) (h4:v≠0) (ho:s.hp.length<v):hasT s v t=false:=by
 have:s.hp[v-1]? =none:=List.getElem?_eq_none (by omega)
 simp[hasT,h1,h2,h3,h4,this]
def allB (s:Stt) (l:List Nat) (ts:List Typ):Bool:=all2 (hasT s) l ts
def handB (h:Hnd):Bool:=decide (0≤h.kind∧h.kind≤3)
def objB (m:Mod) (s:Stt) (o:Ob):Bool:=
 if o.kind=2 then decide (o.n=0∧o.words.length=0∧o.bytes.length≤64)
 else if o.kind=3 then decide (o.n=0∧o.words.length≤64∧o.bytes.length=0)
 else if o.kind=4 then (if o.n<0 then false else match m.recs[o.n.toNat]? with
  |some r=>decide (o.bytes.length=0) && allB s o.words r
  |none=>false)
 else false
def atB (L:List (List Shape)) (f pc:Int):Option (List Typ):=
 if f<0∨pc<0 then none
 else match L[f.toNat]? with
  |none=>none
  |some l=>match l[pc.toNat]? with
   |some (true,s)=>some s
   |_=>none
theorem qHe {L:List (List Shape)} {f pc:Int} (h:f<0∨pc<0):atB L f pc=none:=by simp[atB,h]
theorem atB_out {L:List (List Shape)} {f pc:Int} (h:L.length≤f.toNat):atB L f pc=none:=by
 unfold atB
 rw[List.getElem?_eq_none h]
 split<;>rfl
theorem qHd {L:List (List Shape)} {f pc:Nat} {l:List Shape} (h:L[f]? =some l):atB L (f:Int) (pc:Int)=(match l[pc]? with|some (true,s)=>some s|_=>none):=by
 unfold atB
 rw[if_neg (by omega)]
 simp[h]
theorem qEW {L:List (List Shape)} {f pc:Nat} {l:List Shape} {b:Bool} {s:List Typ} (h:L[f]? =some l) (h':l[pc]? =some (b,s)):atB L (f:Int) (pc:Int)=if b then some s else none:=by
 rw[qHd h,h']
 cases b<;>rfl
theorem qKY {L:List (List Shape)} {f pc:Nat} {l:List Shape} (h:L[f]? =some l) (h':l.length≤pc):atB L (f:Int) (pc:Int)=none:=by
 rw[qHd h,List.getElem?_eq_none h']
def belowB (m:Mod) (L:List (List Shape)) (f pc g:Int):Option (List Typ):=
 match atB L f (pc-1) with
 |none=>none
 |some u=>match m.funcs[f.toNat]? with
  |none=>none
  |some fn=>match fn.code[(pc-1).toNat]? with
   |none=>none
   |some i=>if i.1=25∧i.2.1=g then (match m.funcs[g.toNat]? with|none=>none|some h=>some (u.take (u.length-h.args.length))) else none
def stackB (m:Mod) (L:List (List Shape)) (s:Stt) (k:Nat):Option (List Typ):=
 match s.fr[k]? with
 |none=>none
 |some f=>match atB L f.fn f.pc with
  |none=>none
  |some u=>match s.fr[k+1]? with
   |none=>some u
   |some g=>belowB m L f.fn f.pc g.fn
def frameB (m:Mod) (L:List (List Shape)) (s:Stt) (k:Nat):Bool:=
 match s.fr[k]? with
 |none=>true
 |some f=>match stackB m L s k with
  |none=>false
  |some ts=>allB s f.stk ts && (match m.funcs[f.fn.toNat]? with
   |none=>false
   |some fn=>allB s f.locs (fn.args++fn.locs))
def countB (s:Stt):Bool:=decide (0≤s.quota∧s.quota≤65536∧0≤s.used∧s.used≤s.quota∧0≤s.fin∧s.fin≤7∧s.fr.length≤8∧s.hp.length≤4096∧s.hn.length≤16)
def endB (m:Mod) (L:List (List Shape)) (s:Stt):Bool:=
 if s.fin≠0 then decide (s.fr.length=0∧s.hp.length=0∧(s.val=0∨s.fin=1))
 else decide (s.val=0) && (match s.fr with|[]=>false|f::_=>decide (f.fn=0)) && (List.range s.fr.length).all (frameB m L s)
def typedB (m:Mod) (L:List (List Shape)) (s:Stt):Bool:=countB s && s.hn.all handB && s.hp.all (objB m s) && endB m L s
theorem qE7 {m:Mod} {L:List (List Shape)} {s:Stt} (h:countB s=false):typedB m L s=false:=by simp[typedB,h]
theorem qFd {m:Mod} {L:List (List Shape)} {s:Stt} (h:s.hn.all handB=false):typedB m L s=false:=by simp[typedB,h]
theorem qGd {m:Mod} {L:List (List Shape)} {s:Stt} (h:s.hp.all (objB m s)=false):typedB m L s=false:=by simp[typedB,h]
theorem qD5 {m:Mod} {L:List (List Shape)} {s:Stt} (h1:countB s=true) (h2:s.hn.all handB=true) (h3:s.hp.all (objB m s)=true):typedB m L s=endB m L s:=by simp[typedB,h1,h2,h3]
theorem qKI {m:Mod} {L:List (List Shape)} {s:Stt} (h:s.fin≠0):endB m L s=decide (s.fr.length=0∧s.hp.length=0∧(s.val=0∨s.fin=1)):=by simp[endB,h]
theorem qKH {m:Mod} {L:List (List Shape)} {s:Stt} (h:s.fin=0) (hv:s.val≠0):endB m L s=false:=by simp[endB,h,hv]
theorem qIU {m:Mod} {L:List (List Shape)} {s:Stt} (h:s.fin=0) (hv:s.fr=[]):endB m L s=false:=by simp[endB,h,hv]
theorem qHF {m:Mod} {L:List (List Shape)} {s:Stt} {f:Frm} (h:s.fin=0) (hf:s.fr[0]? =some f) (hn:f.fn≠0):endB m L s=false:=by
 cases e:s.fr with
 |nil=>rw[e] at hf;simp at hf
 |cons g gs=>
  rw[e] at hf
  simp at hf
  subst hf
  simp[endB,h,e,hn]
theorem qHa {m:Mod} {L:List (List Shape)} {s:Stt} {f:Frm} (h:s.fin=0) (hv:s.val=0) (hf:s.fr[0]? =some f) (hn:f.fn=0):endB m L s=(List.range s.fr.length).all (frameB m L s):=by
 cases e:s.fr with
 |nil=>rw[e] at hf;simp at hf
 |cons g gs=>
  rw[e] at hf
  simp at hf
  subst hf
  simp[endB,h,hv,e,hn]
theorem qIO {m:Mod} {L:List (List Shape)} {s:Stt} {k:Nat} (hk:k<s.fr.length) (h:frameB m L s k=false):(List.range s.fr.length).all (frameB m L s)=false:=by
 rw[List.all_eq_false]
 exact⟨k,List.mem_range.2 hk,by simp[h]⟩
theorem qEJ {m:Mod} {L:List (List Shape)} {s:Stt} (h:∀k,k<s.fr.length→frameB m L s k=true):(List.range s.fr.length).all (frameB m L s)=true:=by
 rw[List.all_eq_true]
 exact fun k hk=>h k (List.mem_range.1 hk)
theorem qE2 {s:Stt}:∀{ts:List Typ},(∀t∈ts,t.1≠5)→all2 (hasT s) (List.replicate ts.length 0) ts=true
 |[],_=>rfl
 |t::ts,h=>by
  rw[List.length_cons,List.replicate_succ]
  simp only[all2,Bool.and_eq_true]
  exact⟨qEs (h t (by simp)),qE2 fun u hu=>h u (by simp[hu])⟩
theorem qGP {m:Mod} {L:List (List Shape)} {fn:Fn} {fs:List Fn} {q:Int} (hm:mainB m=true) (hL:RightM m L) (hf:m.funcs=fn::fs) (hq:0≤q∧q≤65536):typedB m L (beginS fn.locs.length q)=true:=by
 have hf0:m.funcs[0]? =some fn:=by rw[hf];rfl
 have hc:checkN m=0:=by
  rcases Decidable.em (checkN m=0) with h|h
  · exact h
  · rw[qBx h] at hm;cases hm
 rw[qDW hc hf,Bool.and_eq_true,decide_eq_true_eq,decide_eq_true_eq] at hm
 have ha:fn.args=[]:=qAv hm.1
 have hb:badM m=false:=by
  cases e:badM m
  · rfl
  · rw[qDC (qA7 hc) e] at hc;cases hc
 have hl:∀t∈fn.locs,t.1≠5:=fun t ht e=>by
  have:=qC3 (by rw[hf];simp:fn∈m.funcs) (qHc (m:=m) ht (by simp[hanB,e]))
  rw[hb] at this
  cases this
 obtain⟨l,hl0,hlen,-,hr⟩:=hL.get hf0
 have h0:=qDG hr.zero
 have hat:atB L 0 0=some []:=by
  have:=qEW (L:=L) (f:=0) (pc:=0) hl0 h0
  simpa using this
 rw[qD5 (by simp[countB,beginS,hq.1,hq.2]) (by simp[beginS]) (by simp[beginS]),qHa (f:=⟨0,0,List.replicate fn.locs.length 0,[]⟩) rfl rfl rfl rfl]
 refine qEJ fun k hk=> ?_
 have hk0:k=0:=by simp[beginS] at hk;omega
 subst hk0
 simp only[frameB,stackB,beginS,List.getElem?_cons_zero,hat,List.getElem?_cons_succ,List.getElem?_nil,hf,Int.toNat_zero,ha,List.nil_append,allB]
 rw[Bool.and_eq_true]
 exact⟨rfl,qE2 hl⟩
theorem qHM {m:Mod} {L:List (List Shape)} (hc:checkN m=0) (hL:RightM m L) {f p:Nat} {fn:Fn} {l:List Shape} {u:List Typ} {i:Ins} (hf:m.funcs[f]? =some fn) (hl:L[f]? =some l) (hp:l[p]? =some (true,u)) (hi:fn.code[p]? =some i) (h25:i.1=25):
 ∃(g:Nat) (h:Fn),i.2.1=(g:Int)∧i.2.2=0∧m.funcs[g]? =some h∧h.args.length≤u.length:=by
 have hmem:=qAf hf
 obtain⟨-,-,-,hcode⟩:=qBb hc hmem
 obtain⟨hg,-⟩:=hcode i (qAf hi)
 obtain⟨o,a,b⟩:=i
 simp only at h25
 subst h25
 obtain⟨o1,a1,b1,e1,e2,e3,-,-,-,-,-,hb⟩:=qBB (op:=25) (a:=a) (b:=b) hg
 have hb0:b1=0:=hb zI
 subst e2 e3 hb0
 obtain⟨hll,-,hr⟩:=hL.at_ f fn l hf hl
 have hpl:p<fn.code.length:=(qAc.1 hi).1
 obtain⟨i',t,ks,h1,h2,-⟩:=hr.at_ p hpl u (qBK hp)
 rw[hi] at h1
 injection h1 with h1
 subst h1
 refine⟨a1,?_⟩
 have hrule:ruleB m fn (25,(a1:Int),((0:Nat):Int)) u=(match m.funcs[a1]? with|some g=>some (g.args,[g.ret])|none=>none):=by
  simp[ruleB]
  cases m.funcs[a1]? <;>rfl
 unfold insB8 at h2
 rw[hrule] at h2
 cases hg:m.funcs[a1]? with
 |none=>rw[hg] at h2;simp at h2
 |some h=>
  rw[hg] at h2
  refine⟨h,rfl,rfl,rfl,?_⟩
  simp only at h2
  by_cases hle:h.args.length≤u.length
  · exact hle
  · have:movB u h.args [h.ret]=none:=by simp[movB,hle]
    rw[this] at h2
    simp at h2
theorem qE0 {m:Mod} {L:List (List Shape)} (hL:RightM m L) {f pc:Int} {u:List Typ} (h:atB L f pc=some u):
 ∃(j p:Nat) (fn:Fn) (l:List Shape) (i:Ins),f=(j:Int)∧pc=(p:Int)∧m.funcs[j]? =some fn∧L[j]? =some l∧l[p]? =some (true,u)∧fn.code[p]? =some i∧u.length≤8:=by
 unfold atB at h
 split at h
 · cases h
 rename_i hn
 cases hl:L[f.toNat]? with
 |none=>rw[hl] at h;cases h
 |some l=>
  rw[hl] at h
  simp only at h
  split at h
  · rename_i s hs
    injection h with h
    subst h
    have hj:f.toNat<m.funcs.length:=by rw[←hL.len];exact(qAc.1 hl).1
    have hf:m.funcs[f.toNat]? =some (m.funcs[f.toNat]):=qAY hj
    obtain⟨hll,h8,-⟩:=hL.at_ _ _ l hf hl
    have hp:pc.toNat<(m.funcs[f.toNat]).code.length:=by rw[←hll];exact(qAc.1 hs).1
    exact⟨f.toNat,pc.toNat,_,l,_,by omega,by omega,hf,hl,hs,qAY hp,h8 _ (qAf hs)⟩
  · cases h
theorem qIz {m:Mod} {L:List (List Shape)} {f p:Nat} {fn:Fn} {l:List Shape} {u:List Typ} {i:Ins} {g:Int} (hf:m.funcs[f]? =some fn) (hl:L[f]? =some l) (hp:l[p]? =some (true,u)) (hi:fn.code[p]? =some i):
 belowB m L (f:Int) ((p:Int)+1) g=if i.1=25∧i.2.1=g then (match m.funcs[g.toNat]? with|none=>none|some h=>some (u.take (u.length-h.args.length))) else none:=by
 unfold belowB
 rw[show((p:Int)+1-1)=(p:Int) by omega,qEW hl hp]
 simp[hf,hi]
 try(split<;>first|rfl|(cases m.funcs[g.toNat]? <;>rfl))
theorem qIy {m:Mod} {L:List (List Shape)} {f pc g:Int} (h:atB L f (pc-1)=none):belowB m L f pc g=none:=by simp[belowB,h]
theorem qFh {m:Mod} {L:List (List Shape)} {s:Stt} {k:Nat} {f:Frm} (hf:s.fr[k]? =some f) (hk:s.fr.length=k+1):stackB m L s k=atB L f.fn f.pc:=by
 have:s.fr[k+1]? =none:=List.getElem?_eq_none (by omega)
 simp only[stackB,hf,this]
 cases atB L f.fn f.pc<;>rfl
theorem qHi {m:Mod} {L:List (List Shape)} {s:Stt} {k:Nat} {f:Frm} (hf:s.fr[k]? =some f) (h:atB L f.fn f.pc=none):stackB m L s k=none:=by simp[stackB,hf,h]
theorem qFg {m:Mod} {L:List (List Shape)} {s:Stt} {k:Nat} {f g:Frm} {u:List Typ} (hf:s.fr[k]? =some f) (hg:s.fr[k+1]? =some g) (h:atB L f.fn f.pc=some u):stackB m L s k=belowB m L f.fn f.pc g.fn:=by simp[stackB,hf,hg,h]
theorem qEt {m:Mod} {L:List (List Shape)} {s:Stt} {k:Nat} {f:Frm} (hf:s.fr[k]? =some f) (h:stackB m L s k=none):frameB m L s k=false:=by simp[frameB,hf,h]
theorem qEK {m:Mod} {L:List (List Shape)} {s:Stt} {k:Nat} {f:Frm} {ts:List Typ} {fn:Fn} (hf:s.fr[k]? =some f) (h:stackB m L s k=some ts) (hfn:m.funcs[f.fn.toNat]? =some fn):frameB m L s k=(allB s f.stk ts && allB s f.locs (fn.args++fn.locs)):=by
 simp[frameB,hf,h,hfn]
theorem qG9 {m:Mod} {L:List (List Shape)} {s:Stt} {k:Nat} {f:Frm} {ts:List Typ} (hf:s.fr[k]? =some f) (h:stackB m L s k=some ts) (ha:allB s f.stk ts=false):frameB m L s k=false:=by
 simp[frameB,hf,h,ha]
end Go.Proofs.YtconajaecpgjgaaGreat
