/-
Vm Vc Vs Vl Vwc Vsc
-/
import Derived.Test.YtelceoecekfamaaGreatQ02
import Derived.Test.YtelceoecekfamaaGreatQ11
import Derived.Test.YtelceoecekfamaaGreatQ12
import Derived.Laws.OwnMore
import Derived.OwnWalk
import Derived.ScopeJumps
import Derived.WalkMore
set_option linter.unusedSimpArgs false
set_option linter.unusedVariables false
namespace Go.Proofs.YtelceoecekfamaaGreat
open Go.RowKit
variable {A:Option Addr}{P:Program}{Q:Exit→Act→World→Prop}{U:Nat→Prop}{Z:Nat→Option Nat}{a b:List Typ}{cs:List Value}{f fn:Fn}{i:Ins}{j k:Nat}{m:Mod}{n n0 p:Nat}{r:List (Bool×Value)}{s:List Typ}{t:Typ}{u:List Typ}{v:Value}{w:World}{x:Bool×Value}
def joinT (a b:Typ):Typ:=(joinK a.1 a.2 b.1 b.2,joinN a.1 a.2 b.1 b.2)
theorem qBF {a b:Typ}:subT a b=true↔(a=b∨b.1=8∨(refB a.1=true∧refB b.1=true∧(a.1=6∨b.1=7))):=by
 obtain⟨a,a'⟩:=a;obtain⟨b,b'⟩:=b;simp only[subT,subB,Bool.or_eq_true,Bool.and_eq_true,beq_iff_eq,Prod.mk.injEq]
 constructor
 · rintro((h|h)|⟨⟨h1,h2⟩,h3⟩)
   · exact .inl h
   · exact .inr (.inl h)
   · exact .inr (.inr ⟨h1,h2,h3⟩)
 · rintro(h|h|⟨h1,h2,h3⟩)
   · exact .inl (.inl h)
   · exact .inl (.inr h)
   · exact .inr ⟨⟨h1,h2⟩,h3⟩
theorem qBf (a b:Typ):(subT a b=true∧joinT a b=b)∨(subT a b=false∧subT b a=true∧joinT a b=a)∨(subT a b=false∧subT b a=false∧refB a.1=true∧refB b.1=true∧joinT a b=(7,0))∨(subT a b=false∧subT b a=false∧¬(refB a.1=true∧refB b.1=true)∧joinT a b=(8,0)):=by
 unfold joinT joinK joinN;rw[show subB a.1 a.2 b.1 b.2=subT a b from rfl,show subB b.1 b.2 a.1 a.2=subT b a from rfl]
 cases h1:subT a b
 · cases h2:subT b a
   · cases h3:refB a.1<;>cases h4:refB b.1<;>simp
   · simp
 · simp
theorem qH4 (a b:Typ):subT a (joinT a b)=true:=by
 rcases qBf a b with⟨h,e⟩|⟨_,_,e⟩|⟨_,_,h,_,e⟩|⟨_,_,_,e⟩<;>rw[e]
 · exact h
 · exact qBq a
 · exact qBF.2 (.inr (.inr ⟨h,by decide,.inr rfl⟩))
 · exact qBF.2 (.inr (.inl rfl))
theorem qGp (a b:Typ):subT b (joinT a b)=true:=by
 rcases qBf a b with⟨_,e⟩|⟨_,h,e⟩|⟨_,_,_,h,e⟩|⟨_,_,_,e⟩<;>rw[e]
 · exact qBq b
 · exact h
 · exact qBF.2 (.inr (.inr ⟨h,by decide,.inr rfl⟩))
 · exact qBF.2 (.inr (.inl rfl))
theorem qGq {a b c:Typ} (h1:subT a c=true) (h2:subT b c=true):subT (joinT a b) c=true:=by
 rcases qBf a b with⟨_,e⟩|⟨_,_,e⟩|⟨n1,n2,ra,rb,e⟩|⟨n1,n2,hr,e⟩<;>rw[e]
 · exact h2
 · exact h1
 · rw[qBF] at h1 h2⊢
   rcases h1 with rfl|h1|⟨_,r1,h1⟩
   · rw[qBF.2 h2] at n2;cases n2
   · exact .inr (.inl h1)
   · rcases h2 with rfl|h2|⟨_,_,h2⟩
     · rw[qBF.2 (.inr (.inr ⟨ra,r1,h1⟩))] at n1;cases n1
     · exact .inr (.inl h2)
     · rcases h1 with h1|h1
       · rw[qBF.2 (.inr (.inr ⟨ra,rb,.inl h1⟩))] at n1;cases n1
       · exact .inr (.inr ⟨by decide,r1,.inr h1⟩)
 · rw[qBF] at h1 h2⊢
   rcases h1 with rfl|h1|⟨ra,r1,h1⟩
   · rw[qBF.2 h2] at n2;cases n2
   · exact .inr (.inl h1)
   · rcases h2 with rfl|h2|⟨rb,_,_⟩
     · rw[qBF.2 (.inr (.inr ⟨ra,r1,h1⟩))] at n1;cases n1
     · exact .inr (.inl h2)
     · exact absurd ⟨ra,rb⟩ hr
def canT (t:Typ):Prop:=t.1=6∨t.1=7∨t.1=8→t.2=0
theorem qJn {a b:Typ} (ha:canT a) (hb:canT b) (h1:subT a b=true) (h2:subT b a=true):a=b:=by
 obtain⟨a,a'⟩:=a;obtain⟨b,b'⟩:=b;simp only[canT] at ha hb;rw[qBF] at h1 h2;simp only[Prod.mk.injEq,refB,Bool.or_eq_true,beq_iff_eq] at h1 h2⊢
 omega
theorem qJm {a b:Typ} (ha:canT a) (hb:canT b):canT (joinT a b):=by
 rcases qBf a b with⟨_,e⟩|⟨_,_,e⟩|⟨_,_,_,_,e⟩|⟨_,_,_,e⟩<;>rw[e]
 · exact hb
 · exact ha
 · intro _;rfl
 · intro _;rfl
def rkT (t:Typ):Nat:=if t.1=8 then 0 else if t.1=7 then 1 else if t.1=6 then 3 else 2
theorem rk_le (t:Typ):rkT t≤3:=by unfold rkT;repeat(first|(split;omega)|omega)
theorem rk_8 (h:t.1=8):rkT t=0:=by simp[rkT,h]
theorem rk_7 (h:t.1=7):rkT t=1:=by simp[rkT,h]
theorem rk_6 (h:t.1=6):rkT t=3:=by simp[rkT,h]
theorem qIv (h:¬t.1=8):1≤rkT t:=by
 unfold rkT;rw[if_neg h]
 repeat(first|omega|split)
theorem qIu (h:¬t.1=8) (h':¬t.1=7):2≤rkT t:=by
 unfold rkT;rw[if_neg h,if_neg h'];split<;>omega
theorem rk_low (h:¬t.1=6):rkT t≤2:=by
 unfold rkT;rw[if_neg h]
 repeat(first|omega|split)
theorem rk_join {a b:Typ} (ha:canT a) (hb:canT b):joinT a b=a∨rkT (joinT a b)<rkT a:=by
 rcases qBf a b with⟨h,e⟩|⟨_,_,e⟩|⟨n1,n2,ra,rb,e⟩|⟨n1,n2,hr,e⟩<;>rw[e]
 · by_cases hab:a=b
   · exact .inl hab.symm
   · refine .inr ?_
     have same:a.1=b.1→a.1=6∨a.1=7∨a.1=8→False:=fun h1 h2=>hab (Prod.ext h1 ((ha h2).trans (hb (by rw[←h1];exact h2)).symm));rcases qBF.1 h with h|h8|⟨ra,rb,h6⟩
     · exact absurd h hab
     · rw[rk_8 h8]
       exact qIv fun h1=>same (h1.trans h8.symm) (.inr (.inr h1))
     · have a8:¬a.1=8:=fun h1=>by rw[h1] at ra;exact absurd ra qr
       by_cases h1:a.1=6
       · rw[rk_6 h1]
         have:=rk_low (t:=b) fun h2=>same (h1.trans h2.symm) (.inl h1)
         omega
       · have h7:b.1=7:=h6.resolve_left h1
         rw[rk_7 h7];exact qIu a8 fun h2=>same (h2.trans h7.symm) (.inr (.inl h2))
 · exact .inl rfl
 · refine .inr ?_
   have h7:¬a.1=7:=fun h=>by
    rw[qBF.2 (.inr (.inr ⟨rb,ra,.inr h⟩))] at n2
    cases n2
   have h8:¬a.1=8:=fun h1=>by rw[h1] at ra;exact absurd ra qr
   rw[rk_7 (t:=(7,0)) rfl];exact qIu h8 h7
 · refine .inr ?_
   have h8:¬a.1=8:=fun h=>by
    rw[qBF.2 (.inr (.inl h))] at n2
    cases n2
   rw[rk_8 (t:=(8,0)) rfl];exact qIv h8
def joinL:List Typ→List Typ→List Typ
 |a::xs,b::ys=>joinT a b::joinL xs ys
 |_,_=>[]
def canL (s:List Typ):Prop:=∀t∈s,canT t
def rkL:List Typ→Nat
 |[]=>0
 |t::ts=>rkT t+rkL ts
theorem qDG (h:a.length=b.length):(joinL a b).length=a.length:=by
 induction a generalizing b with
 |nil=>rfl
 |cons x a ih=>
  cases b with
  |nil=>simp at h
  |cons y b=>simp only[joinL,List.length_cons,ih qy]
theorem qGt (h:a.length=b.length):belowT a (joinL a b)=true:=by
 induction a generalizing b with
 |nil=>cases b<;>simp[belowT,joinL] at h⊢
 |cons x a ih=>
  cases b with
  |nil=>simp at h
  |cons y b=>simp only[joinL,belowT,Bool.and_eq_true];exact⟨qH4 x y,ih qy⟩
theorem qDS (h:a.length=b.length):belowT b (joinL a b)=true:=by
 induction a generalizing b with
 |nil=>cases b<;>simp[belowT,joinL] at h⊢
 |cons x a ih=>
  cases b with
  |nil=>simp at h
  |cons y b=>simp only[joinL,belowT,Bool.and_eq_true];exact⟨qGp x y,ih qy⟩
theorem qFy {c:List Typ} (h1:belowT a c=true) (h2:belowT b c=true):belowT (joinL a b) c=true:=by
 induction a generalizing b c with
 |nil=>
  cases c with
  |nil=>cases b<;>simp[belowT,joinL] at h2⊢
  |cons z c=>simp[belowT] at h1
 |cons x a ih=>
  cases c with
  |nil=>simp[belowT] at h1
  |cons z c=>
   cases b with
   |nil=>simp[belowT] at h2
   |cons y b=>
    simp only[belowT,joinL,Bool.and_eq_true] at h1 h2⊢;exact⟨qGq h1.1 h2.1,ih h1.2 h2.2⟩
theorem qGB (ha:canL a) (hb:canL b) (h1:belowT a b=true) (h2:belowT b a=true):a=b:=by
 induction a generalizing b with
 |nil=>cases b<;>simp[belowT] at h1⊢
 |cons x a ih=>
  cases b with
  |nil=>simp[belowT] at h1
  |cons y b=>
   simp only[belowT,Bool.and_eq_true] at h1 h2;rw[qJn (ha x (by simp)) (hb y (by simp)) h1.1 h2.1,ih (fun t ht=>ha t (by simp[ht])) (fun t ht=>hb t (by simp[ht])) h1.2 h2.2]
theorem qIO (ha:canL a) (hb:canL b):canL (joinL a b):=by
 induction a generalizing b with
 |nil=>intro t ht;cases b<;>simp[joinL] at ht
 |cons x a ih=>
  cases b with
  |nil=>intro t ht;simp[joinL] at ht
  |cons y b=>
   intro t ht;simp only[joinL,List.mem_cons] at ht;rcases ht with rfl|ht
   · exact qJm (ha x (by simp)) (hb y (by simp))
   · exact ih (fun t ht=>ha t (by simp[ht])) (fun t ht=>hb t (by simp[ht])) t ht
theorem rkL_le (s:List Typ):rkL s≤3*s.length:=by
 induction s with
 |nil=>simp[rkL]
 |cons t s ih=>
  have:=rk_le t;simp only[rkL,List.length_cons]
  omega
theorem qIx (ha:canL a) (hb:canL b) (h:a.length=b.length):joinL a b=a∨rkL (joinL a b)<rkL a:=by
 have le:∀{a b:List Typ},canL a→canL b→a.length=b.length→(joinL a b=a∧rkL (joinL a b)=rkL a)∨rkL (joinL a b)<rkL a:=by
  intro a
  induction a with
  |nil=>intro b _ _ _;exact .inl ⟨by cases b<;>rfl,by cases b<;>rfl⟩
  |cons x a ih=>
   intro b ha hb h
   cases b with
   |nil=>simp at h
   |cons y b=>
    have i:=ih (b:=b) (fun t ht=>ha t (by simp[ht])) (fun t ht=>hb t (by simp[ht])) qy;have j:=rk_join (ha x (by simp)) (hb y (by simp));simp only[joinL,rkL];rcases i with⟨i1,i2⟩|i
    · rcases j with j|j
      · exact .inl ⟨by rw[i1,j],by rw[i2,j]⟩
      · exact .inr (by omega)
    · rcases j with j|j
      · exact .inr (by rw[j];omega)
      · exact .inr (by omega)
 rcases le ha hb h with⟨h,_⟩|h
 · exact .inl h
 · exact .inr h
theorem qGs (h:a.length=b.length) (hj:joinL a b=a):belowT b a=true:=by
 have:=qDS h
 rwa [hj] at this
abbrev Shp:=Nat→Option (List Typ)
def leO (a b:Option (List Typ)):Prop:=∀s,a=some s→∃r,b=some r∧belowT s r=true
def leS (S R:Shp):Prop:=∀p,leO (S p) (R p)
theorem qD8 (a:Option (List Typ)):leO a a:=fun s h=>⟨s,h,qDW s⟩
theorem qCb {a b c:Option (List Typ)} (h1:leO a b) (h2:leO b c):leO a c:=fun s hs=>by
 obtain⟨r,hr,k1⟩:=h1 s hs;obtain⟨q,hq,k2⟩:=h2 r hr;exact⟨q,hq,qCF k1 k2⟩
def okAt (m:Mod) (fn:Fn) (S:Shp) (p:Nat):Prop:=∀s,S p=some s→∃i t l,fn.code[p]? =some i∧insB8 m fn i p s=(0,t,l)∧∀k∈l,leO (some t) (S k.toNat)
structure RightF (m:Mod) (fn:Fn) (S:Shp):Prop where
 zero:S 0=some []
 at_:∀p,p<fn.code.length→okAt m fn S p
structure Run (m:Mod) (fn:Fn) (S:Shp):Prop where
 zero:S 0=some []
 out:∀p,fn.code.length≤p→S p=none
 least:∀R,RightF m fn R→leS S R
 can:∀p s,S p=some s→canL s∧s.length≤8
def S0:Shp:=fun p=>if p=0 then some [] else none
theorem qHh (h:0<fn.code.length):Run m fn S0:=by
 refine⟨rfl,fun p hp=> ?_,fun R hR p s hs=> ?_,fun p s hs=> ?_⟩
 · unfold S0;rw[if_neg (by omega)]
 · unfold S0 at hs
   split at hs
   · rename_i hp
     subst hp;injection hs with hs;subst hs;exact⟨[],hR.zero,rfl⟩
   · cases hs
 · unfold S0 at hs
   split at hs
   · injection hs with hs
     subst hs;exact⟨fun t ht=>by simp at ht,by simp⟩
   · cases hs
def Und (m:Mod) (fn:Fn) (p:Nat) (s:List Typ):Prop:=∀R,RightF m fn R→leO (some s) (R p)
theorem Run.und {S:Shp} (h:Run m fn S) (hs:S p=some s):Und m fn p s:=fun R hR=>by
 have:=h.least R hR p
 rwa [hs] at this
theorem qCu {R:Shp} (hR:RightF m fn R) (hs:Und m fn p s) (hi:fn.code[p]? =some i):∃t l,insB8 m fn i p s=(0,t,l)∧∀k∈l,leO (some t) (R k.toNat):=by
 obtain⟨r,hr,hb⟩:=hs R hR s rfl;obtain⟨i',t',l,hi',hf,ht⟩:=hR.at_ p (qAj.1 hi).1 r hr;rw[hi] at hi';injection hi' with hi';subst hi';obtain⟨t,h1,h2⟩:=qH6 hb hf;refine⟨t,l,h1,fun k hk q hq=> ?_⟩;injection hq with hq;subst hq;obtain⟨u,hu,h3⟩:=ht k hk t' rfl;exact⟨u,hu,qCF h2 h3⟩
theorem qC6 (hs:Und m fn p s) (hi:fn.code[p]? =some i) (he:(insB8 m fn i p s).1≠0):¬∃R,RightF m fn R:=by
 rintro⟨R,hR⟩;obtain⟨t,l,hf,-⟩:=qCu hR hs hi;rw[hf] at he;exact he rfl
theorem qCO {S:Shp} {t:List Typ} {l:List Int} (h:Run m fn S) (hs:Und m fn p s) (hi:fn.code[p]? =some i) (hf:insB8 m fn i p s=(0,t,l)) (hk:(k:Int)∈l) (hu:S k=some u) (hn:u.length≠t.length):¬∃R,RightF m fn R:=by
 rintro⟨R,hR⟩;obtain⟨t',l',hf',ht⟩:=qCu hR hs hi;rw[hf] at hf';simp only[Prod.mk.injEq,true_and] at hf';obtain⟨rfl,rfl⟩:=hf';obtain⟨r,hr,h1⟩:=ht _ hk t rfl;rw[Int.toNat_natCast] at hr;obtain⟨r',hr',h2⟩:=h.least R hR k u hu;rw[hr] at hr';injection hr' with hr';subst hr';exact hn ((qBT h2).trans (qBT h1).symm)
def putS (S:Shp) (k:Nat) (s:List Typ):Shp:=fun p=>if p=k then some s else S p
theorem qBp (S:Shp) (k:Nat) (s:List Typ):putS S k s k=some s:=by simp[putS]
theorem qBi {S:Shp} (h:p≠k):putS S k s p=S p:=by simp[putS,h]
theorem qEy {S:Shp} {t:List Typ} {l:List Int} (h:Run m fn S) (hs:Und m fn p s) (hi:fn.code[p]? =some i) (hf:insB8 m fn i p s=(0,t,l)) (hk:(k:Int)∈l) (hu:S k=none) (hc:canL t) (h8:t.length≤8) (hlt:k<fn.code.length):Run m fn (putS S k t):=by
 have hk0:(0:Nat)≠k:=fun e=>by rw[←e,h.zero] at hu;cases hu
 refine⟨by rw[qBi hk0];exact h.zero,fun q hq=>by rw[qBi (by omega)];exact h.out q hq,fun R hR q=> ?_,fun q r hq=> ?_⟩
 · by_cases e:q=k
   · subst e
     rw[qBp];obtain⟨t',l',hf',ht⟩:=qCu hR hs hi;rw[hf] at hf';simp only[Prod.mk.injEq,true_and] at hf';obtain⟨rfl,rfl⟩:=hf';have:=ht _ hk
     rwa [Int.toNat_natCast] at this
   · rw[qBi e]
     exact h.least R hR q
 · by_cases e:q=k
   · subst e
     rw[qBp] at hq;injection hq with hq;subst hq;exact⟨hc,h8⟩
   · rw[qBi e] at hq
     exact h.can q r hq
theorem qDu {S:Shp} {t:List Typ} {l:List Int} (h:Run m fn S) (hs:Und m fn p s) (hi:fn.code[p]? =some i) (hf:insB8 m fn i p s=(0,t,l)) (hk:(k:Int)∈l) (hu:S k=some u) (hn:u.length=t.length) (hc:canL t):Run m fn (putS S k (joinL u t)):=by
 have hlt:k<fn.code.length:=by
  rcases Nat.lt_or_ge k fn.code.length with h1|h1
  · exact h1
  · rw[h.out k h1] at hu;cases hu
 refine⟨?_,fun q hq=>by rw[qBi (by omega)];exact h.out q hq,fun R hR q=> ?_,fun q r hq=> ?_⟩
 · by_cases e:0=k
   · subst e
     rw[h.zero] at hu;injection hu with hu;subst hu;rw[qBp]
     cases t<;>rfl
   · rw[qBi e]
     exact h.zero
 · by_cases e:q=k
   · subst e
     rw[qBp];obtain⟨t',l',hf',ht⟩:=qCu hR hs hi;rw[hf] at hf';simp only[Prod.mk.injEq,true_and] at hf';obtain⟨rfl,rfl⟩:=hf';obtain⟨r,hr,h1⟩:=ht _ hk t rfl;rw[Int.toNat_natCast] at hr;obtain⟨r',hr',h2⟩:=h.least R hR q u hu;rw[hr] at hr';injection hr' with hr';subst hr';intro z hz;injection hz with hz;subst hz;exact⟨r,hr,qFy h2 h1⟩
   · rw[qBi e]
     exact h.least R hR q
 · by_cases e:q=k
   · subst e
     rw[qBp] at hq;injection hq with hq;subst hq;obtain⟨h1,h2⟩:=h.can q u hu;exact⟨qIO h1 hc,by rw[qDG hn];exact h2⟩
   · rw[qBi e] at hq
     exact h.can q r hq
theorem qIl {S T:Shp} (h:Run m fn S) (h':Run m fn T) (hS:RightF m fn S) (hT:RightF m fn T):∀p,S p=T p:=fun p=>by
 cases hs:S p with
 |none=>
  cases ht:T p with
  |none=>rfl
  |some t=>
   obtain⟨r,hr,-⟩:=h'.least S hS p t ht;rw[hs] at hr
   cases hr
 |some s=>
  obtain⟨t,ht,h1⟩:=h.least T hT p s hs;obtain⟨r,hr,h2⟩:=h'.least S hS p t ht;rw[hs] at hr;injection hr with hr;subst hr;rw[ht,qGB (h.can p s hs).1 (h'.can p t ht).1 h1 h2]
def rkO:Option (List Typ)→Nat
 |none=>25
 |some s=>rkL s
def rkS (S:Shp):Nat→Nat
 |0=>0
 |n+1=>rkS S n+rkO (S n)
theorem qHH {S:Shp} (n:Nat):rkS (putS S k s) n+(if k<n then rkO (S k) else 0)=rkS S n+(if k<n then rkL s else 0):=by
 induction n with
 |zero=>simp[rkS]
 |succ n ih=>
  simp only[rkS]
  by_cases e:n=k
  · subst e
    rw[qBp,if_pos (by omega),if_pos (by omega)];rw[if_neg (by omega),if_neg (by omega)] at ih
    show rkS (putS S n s) n+rkL s+rkO (S n)=rkS S n+rkO (S n)+rkL s
    omega
  · rw[qBi e]
    by_cases h:k<n
    · rw[if_pos h,if_pos h] at ih
      rw[if_pos (by omega),if_pos (by omega)]
      omega
    · rw[if_neg h,if_neg h] at ih
      rw[if_neg (by omega),if_neg (by omega)]
      omega
theorem qHI {S:Shp} {t:List Typ} (hk:k<n) (hu:S k=none) (h8:t.length≤8):rkS (putS S k t) n<rkS S n:=by
 have h:=qHH (S:=S) (k:=k) (s:=t) n;rw[if_pos hk,if_pos hk,hu] at h;have:=rkL_le t;simp only[rkO] at h
 omega
theorem qFZ {S:Shp} {t:List Typ} (hk:k<n) (hu:S k=some u) (ha:canL u) (hb:canL t) (hn:u.length=t.length) (hne:joinL u t≠u):rkS (putS S k (joinL u t)) n<rkS S n:=by
 have h:=qHH (S:=S) (k:=k) (s:=joinL u t) n;rw[if_pos hk,if_pos hk,hu] at h;have:=(qIx ha hb hn).resolve_left hne;simp only[rkO] at h
 omega
theorem qB8 {r:Int} (h:goodT r t=true):canT t:=by
 obtain⟨k,n⟩:=t;simp only[goodT,goodB] at h;intro hk;simp only at hk⊢;split at h
 · simpa using h
 · split at h
   · omega
   · split at h
     · omega
     · cases h
theorem qBx (h:canT t):canL [t]:=fun u hu=>by simp at hu;subst hu;exact h
theorem qF7 {u:Typ} (h:canT t) (h':canT u):canL [t,u]:=fun v hv=>by simp at hv;rcases hv with rfl|rfl<;>assumption
theorem qF8:canL []:=fun t ht=>by simp at ht
theorem qF9 {t:List Typ} (h:canL s) (h':canL t):canL (s++t):=fun u hu=>by
 rcases List.mem_append.1 hu with h1|h1
 · exact h u h1
 · exact h' u h1
theorem qIN (h:canL s) (n:Nat):canL (s.take n):=fun u hu=>h u (List.mem_of_mem_take hu)
theorem qB1 (k:Int):canT (k,0):=fun _=>rfl
theorem can_rec (n:Int):canT (4,n):=fun h=>by simp at h
theorem qGy (hc:checkN m=0) (hf:f∈m.funcs):canL f.args∧canL f.locs∧canT f.ret:=by
 have ho:=(qA1.1 (qAw hc)).funcs f hf;simp only[fnOk,Bool.and_eq_true,qBH] at ho;exact⟨fun t ht=>qB8 (ho.1.1.1.2 t ht),fun t ht=>qB8 (ho.1.2.2 t ht),qB8 ho.1.1.2⟩
theorem imp_can {p:Imp} (hc:checkN m=0) (hf:p∈m.imps):canT p.ret:=by
 have ho:=(qA1.1 (qAw hc)).imps p hf;simp only[impOk,Bool.and_eq_true] at ho;exact qB8 ho.2
theorem rec_can {r:List Typ} (hc:checkN m=0) (hf:r∈m.recs):canL r:=by
 have ho:=(qA1.1 (qAw hc)).recs r hf;simp only[recOk,qBH] at ho;exact fun t ht=>qB8 (ho.2 t ht)
theorem loc_can (n:Int) (hc:checkN m=0) (hf:f∈m.funcs):canT (locB f n):=by
 obtain⟨h1,h2,-⟩:=qGy hc hf;unfold locB;split
 · exact qB1 8
 · cases e:(f.args++f.locs)[n.toNat]? with
   |none=>exact qB1 8
   |some t=>exact qF9 h1 h2 t (qAl e)
theorem fld_can (a b:Int) (hc:checkN m=0):canT (fldB m a b):=by
 unfold fldB
 cases e:m.recs[a.toNat]? with
 |none=>simp;exact qB1 0
 |some r=>
  simp only[Option.getD_some]
  cases e2:r[b.toNat]? with
  |none=>exact qB1 0
  |some t=>exact rec_can hc (qAl e) t (qAl e2)
def canO (o:Option (List Typ×List Typ)):Prop:=∀p,o=some p→canL p.2
theorem qJo {c:Prop} [Decidable c] {a b:Option (List Typ×List Typ)} (ha:canO a) (hb:canO b):canO (if c then a else b):=by
 split
 · exact ha
 · exact hb
theorem qBL {i o:List Typ} (h:canL o):canO (some (i,o)):=fun p hp=>by
 injection hp with hp;subst hp;exact h
theorem qDK:canO none:=fun p hp=>by cases hp
theorem qJp {r:List Typ} (h:canL s) (e:s.reverse=r):canL r:=fun t ht=>h t (List.mem_reverse.1 (by rw[e];exact ht))
theorem qIo (hc:checkN m=0) (hf:f∈m.funcs) (hs:canL s):canO (ruleB m f i s):=by
 obtain⟨h1,h2,h3⟩:=qGy hc hf;unfold ruleB
 repeat(refine qJo ?_ ?_
        first
        |exact qBL qF8
        |exact qBL (qBx (qB1 _))
        |exact qBL (qF7 (qB1 _) (qB1 _))
        |exact qBL (qBx (loc_can _ hc hf))
        |exact qBL (qBx (fld_can _ _ hc))
        |(split
          · rename_i g hg
            first
            |exact qBL (qBx (qGy hc (qAl hg)).2.2)
            |exact qBL (qBx (imp_can hc (qAl hg)))
            |exact qBL (qBx (can_rec _))
          · exact qDK)
        |(split
          · rename_i t r e
            have hr:=qJp hs e
            first
            |exact qBL (qF7 (hr _ (by simp)) (hr _ (by simp)))
            |(split
              · exact qBL qF8
              · exact qDK)
          · exact qDK))
 exact qBL (qBx (qB1 _))
theorem qED {t:List Typ} {l:List Int} (hc:checkN m=0) (hf:f∈m.funcs) (hs:canL s) (h:insB8 m f i p s=(0,t,l)):canL t∧t.length≤8:=by
 unfold insB8 at h;split at h
 · simp at h
 · rename_i ins outs hr
   split at h
   · simp at h
   · rename_i t2 hm
     split at h
     · simp at h
     · simp only[Prod.mk.injEq,true_and] at h
       obtain⟨rfl,-⟩:=h;unfold movB at hm;split at hm
       · rename_i h3
         injection hm with hm;subst hm;refine⟨qF9 (qIN hs _) (qIo hc hf hs _ hr),?_⟩;rw[List.length_append,List.length_take]
         omega
       · cases hm
theorem qCo {t:List Typ} {l:List Int} (hc:checkN m=0) (hf:f∈m.funcs) (hi:f.code[p]? =some i) (h:insB8 m f i p s=(0,t,l)):∀k∈l,0≤k∧k.toNat<f.code.length:=by
 obtain⟨-,-,-,q4⟩:=qBR hc hf;obtain⟨hg,hn⟩:=q4 i (qAl hi);obtain⟨o1,x1,y1,e1,e2,e3,-,-,-⟩:=qA6 hg;have hp:=(qAj.1 hi).1;have hl:nextB f i p=some l:=by
  unfold insB8 at h;split at h
  · simp at h
  · split at h
    · simp at h
    · split at h
      · simp at h
      · rename_i l' hl
        simp only[Prod.mk.injEq,true_and] at h;rw[hl,h.2]
 intro k hk
 by_cases h26:i.1=26
 · simp[nextB,h26] at hl
   subst hl;simp at hk
 by_cases h23:i.1=23
 · simp[nextB,h23] at hl
   simp[namedB,h23] at hn;subst hl;simp at hk
   omega
 by_cases hlast:f.code.length≤p+1
 · simp[nextB,h26,h23,hlast] at hl
 by_cases h24:i.1=24
 · simp[nextB,h24,hlast] at hl
   simp[namedB,h24] at hn;subst hl;simp at hk
   omega
 · simp[nextB,h26,h23,h24,hlast] at hl
   subst hl;simp at hk
   omega
abbrev Shape:=Bool×List Typ
def shO (x:Shape):Option (List Typ):=if x.1 then some x.2 else none
def toS (l:List Shape):Shp:=fun p=>(l[p]?).bind shO
theorem qA7 {l:List Shape} (h:l[p]? =some (true,s)):toS l p=some s:=by simp[toS,h,shO]
theorem qCA {l:List Shape} (h:l[p]? =some (false,s)):toS l p=none:=by simp[toS,h,shO]
theorem qDm {l:List Shape} (h:toS l p=some s):l[p]? =some (true,s):=by
 unfold toS at h
 cases e:l[p]? with
 |none=>rw[e] at h;cases h
 |some x=>
  obtain⟨b,u⟩:=x;rw[e] at h
  cases b
  · simp[shO] at h
  · simp[shO] at h;subst h;rfl
theorem qBO {l:List Shape} (hp:p<l.length):toS (l.set p (true,s))=putS (toS l) p s:=by
 funext q
 unfold toS putS;rw[List.getElem?_set]
 by_cases e:p=q
 · subst e
   simp[hp,shO]
 · rw[if_neg e,if_neg (fun h=>e h.symm)]
structure Least (m:Mod) (fn:Fn) (l:List Shape):Prop where
 len:l.length=fn.code.length
 out:∀(p:Nat) (s:List Typ),l[p]? =some (false,s)→s=[]
 run:Run m fn (toS l)
 ok:∀p,p<fn.code.length→okAt m fn (toS l) p
theorem Least.right {l:List Shape} (h:Least m fn l):RightF m fn (toS l):=⟨h.run.zero,h.ok⟩
theorem Least.same {l l':List Shape} (h:Least m fn l) (h':Least m fn l'):l=l':=by
 have hs:=qIl h.run h'.run h.right h'.right
 apply List.ext_getElem?
 intro p;have hp:=hs p
 by_cases hlt:p<l.length
 · have hlt':p<l'.length:=by rw[h'.len,←h.len];exact hlt
   obtain⟨⟨b,s⟩,e⟩:∃x,l[p]? =some x:=⟨_,List.getElem?_eq_getElem hlt⟩;obtain⟨⟨b',s'⟩,e'⟩:∃x,l'[p]? =some x:=⟨_,List.getElem?_eq_getElem hlt'⟩;rw[e,e']
   cases b<;>cases b'
   · rw[h.out p s e,h'.out p s' e']
   · rw[qCA e,qA7 e'] at hp;cases hp
   · rw[qA7 e,qCA e'] at hp;cases hp
   · rw[qA7 e,qA7 e'] at hp;injection hp with hp;rw[hp]
 · rw[List.getElem?_eq_none (by omega),List.getElem?_eq_none (by rw[h'.len,←h.len];omega)]
def Never (m:Mod) (fn:Fn):Prop:=¬∃R,RightF m fn R
structure LeastM (m:Mod) (L:List (List Shape)):Prop where
 len:L.length=m.funcs.length
 at_:∀(j:Nat) (fn:Fn) (l:List Shape),m.funcs[j]? =some fn→L[j]? =some l→Least m fn l
def NeverM (m:Mod):Prop:=∃fn∈m.funcs,Never m fn
theorem LeastM.get {L:List (List Shape)} (h:LeastM m L) (hf:m.funcs[j]? =some fn):∃l,L[j]? =some l∧Least m fn l:=by
 have hj:=(qAj.1 hf).1;have e:L[j]? =some (L[j]'(by rw[h.len];exact hj)):=List.getElem?_eq_getElem _;exact⟨_,e,h.at_ j fn _ hf e⟩
theorem LeastM.same {L L':List (List Shape)} (h:LeastM m L) (h':LeastM m L'):L=L':=by
 apply List.ext_getElem?
 intro j
 by_cases hj:j<m.funcs.length
 · have hf:m.funcs[j]? =some m.funcs[j]:=List.getElem?_eq_getElem hj
   obtain⟨l,e,k⟩:=h.get hf;obtain⟨l',e',k'⟩:=h'.get hf;rw[e,e',k.same k']
 · rw[List.getElem?_eq_none (by rw[h.len];omega),List.getElem?_eq_none (by rw[h'.len];omega)]
structure RightM (m:Mod) (L:List (List Shape)):Prop where
 len:L.length=m.funcs.length
 at_:∀(j:Nat) (fn:Fn) (l:List Shape),m.funcs[j]? =some fn→L[j]? =some l→l.length=fn.code.length∧(∀x∈l,x.2.length≤8)∧RightF m fn (toS l)
theorem RightM.get {L:List (List Shape)} (h:RightM m L) (hf:m.funcs[j]? =some fn):∃l,L[j]? =some l∧l.length=fn.code.length∧(∀x∈l,x.2.length≤8)∧RightF m fn (toS l):=by
 have hj:=(qAj.1 hf).1;have e:L[j]? =some (L[j]'(by rw[h.len];exact hj)):=List.getElem?_eq_getElem _;exact⟨_,e,h.at_ j fn _ hf e⟩
theorem RightM.never {L:List (List Shape)} (h:RightM m L):¬NeverM m:=by
 rintro⟨fn,hfn,hn⟩;obtain⟨j,hj⟩:=qBM.1 hfn;obtain⟨l,-,-,-,hr⟩:=h.get hj;exact hn ⟨_,hr⟩
theorem Least.short {l:List Shape} (h:Least m fn l):∀x∈l,x.2.length≤8:=by
 rintro⟨b,s⟩ hx;obtain⟨p,hp⟩:=qBM.1 hx
 cases b
 · rw[h.out p s hp];simp
 · exact(h.run.can p s (qA7 hp)).2
theorem LeastM.right {L:List (List Shape)} (h:LeastM m L):RightM m L:=
 ⟨h.len,fun j fn l hf hl=>⟨(h.at_ j fn l hf hl).len,(h.at_ j fn l hf hl).short,(h.at_ j fn l hf hl).right⟩⟩
theorem LeastM.least {L R:List (List Shape)} (h:LeastM m L) (h':RightM m R) {l:List Shape} (hl:L[j]? =some l) (hp:l[p]? =some (true,s)):∃r t,R[j]? =some r∧r[p]? =some (true,t)∧belowT s t=true:=by
 have hj:j<m.funcs.length:=by rw[←h.len];exact(qAj.1 hl).1
 have hf:m.funcs[j]? =some m.funcs[j]:=List.getElem?_eq_getElem hj;obtain⟨r,hr,-,-,hR⟩:=h'.get hf;obtain⟨t,ht,hb⟩:=(h.at_ j _ l hf hl).run.least _ hR p s (qA7 hp);exact⟨r,t,hr,qDm ht,hb⟩
def putF (t:List Typ):List Int→List Shape→Option (List Shape)
 |[],l=>some l
 |k::ks,l=>
  match l[k.toNat]? with
  |none=>none
  |some (false,_)=>putF t ks (l.set k.toNat (true,t))
  |some (true,u)=>if u.length=t.length then putF t ks (l.set k.toNat (true,joinL u t)) else none
def stepF (m:Mod) (fn:Fn) (l:List Shape) (p:Nat):Option (List Shape):=
 match l[p]?,fn.code[p]? with
 |some (true,s),some i=>if (insB8 m fn i p s).1=0 then putF (insB8 m fn i p s).2.1 (insB8 m fn i p s).2.2 l else none
 |_,_=>some l
def stepsF (m:Mod) (fn:Fn):List Nat→List Shape→Option (List Shape)
 |[],l=>some l
 |p::ps,l=>(stepF m fn l p).bind (stepsF m fn ps)
def okF (m:Mod) (fn:Fn) (l:List Shape) (p:Nat):Bool:=
 match l[p]?,fn.code[p]? with
 |some (true,s),some i=>(insB8 m fn i p s).1==0 && (insB8 m fn i p s).2.2.all fun k=>match l[k.toNat]? with
  |some (true,u)=>belowT (insB8 m fn i p s).2.1 u
  |_=>false
 |some (true,_),none=>false
 |_,_=>true
def outF (x:Shape):Bool:=x.1 || x.2.isEmpty
structure RunF (m:Mod) (fn:Fn) (l:List Shape):Prop where
 len:l.length=fn.code.length
 run:Run m fn (toS l)
theorem qI2 {t:List Typ} {ks:List Int} (hi:fn.code[p]? =some i) (hu:Und m fn p s) (hf:insB8 m fn i p s=(0,t,ks)) (hc:canL t) (h8:t.length≤8):
 ∀(js:List Int) (l:List Shape),RunF m fn l→(∀j∈js,j∈ks∧0≤j∧j.toNat<fn.code.length)→(∀l',putF t js l=some l'→RunF m fn l')∧(putF t js l=none→Never m fn):=by
 intro js
 induction js with
 |nil=>
  intro l h _;refine⟨fun l' e=> ?_,fun e=>(by simp[putF] at e)⟩;simp only[putF,Option.some.injEq] at e;subst e;exact h
 |cons j js ih=>
  intro l h hj;obtain⟨hm,h0,hlt⟩:=hj j (by simp);have hm':((j.toNat:Nat):Int)∈ks:=by rw[Int.toNat_of_nonneg h0];exact hm
  have hlt':j.toNat<l.length:=by rw[h.len];exact hlt
  obtain⟨⟨b,u⟩,e⟩:∃x,l[j.toNat]? =some x:=⟨_,List.getElem?_eq_getElem hlt'⟩;have hr:=fun a ha=>hj a (List.mem_cons_of_mem _ ha);simp only[putF,e]
  cases b
  · simp only
    refine ih _ ⟨by simpa using h.len,?_⟩ hr;rw[qBO hlt'];exact qEy h.run hu hi hf hm' (qCA e) hc h8 hlt
  · simp only
    by_cases hn:u.length=t.length
    · rw[if_pos hn]
      refine ih _ ⟨by simpa using h.len,?_⟩ hr;rw[qBO hlt'];exact qDu h.run hu hi hf hm' (qA7 e) hn hc
    · rw[if_neg hn]
      exact⟨fun l' e=>(by cases e),fun _=>qCO h.run hu hi hf hm' (qA7 e) hn⟩
theorem qHg (hc:checkN m=0) (hf:fn∈m.funcs) {l:List Shape} (h:RunF m fn l) (p:Nat):(∀l',stepF m fn l p=some l'→RunF m fn l')∧(stepF m fn l p=none→Never m fn):=by
 unfold stepF;split
 · rename_i s i hs hi
   have hu:=h.run.und (qA7 hs)
   by_cases he:(insB8 m fn i p s).1=0
   · rw[if_pos he]
     have hfl:insB8 m fn i p s=(0,(insB8 m fn i p s).2.1,(insB8 m fn i p s).2.2):=Prod.ext he rfl;obtain⟨h1,h2⟩:=qED hc hf (h.run.can p s (qA7 hs)).1 hfl;have h3:=qCo hc hf hi hfl;exact qI2 hi hu hfl h1 h2 _ _ h fun j hj=>⟨hj,h3 j hj⟩
   · rw[if_neg he]
     exact⟨fun l' e=>(by cases e),fun _=>qC6 hu hi he⟩
 · exact⟨fun l' e=>(by injection e with e;subst e;exact h),fun e=>(by cases e)⟩
theorem qGQ (hc:checkN m=0) (hf:fn∈m.funcs):∀(ps:List Nat) (l:List Shape),RunF m fn l→(∀l',stepsF m fn ps l=some l'→RunF m fn l')∧(stepsF m fn ps l=none→Never m fn):=by
 intro ps
 induction ps with
 |nil=>intro l h;exact⟨fun l' e=>(by simp only[stepsF,Option.some.injEq] at e;subst e;exact h),fun e=>(by simp[stepsF] at e)⟩
 |cons p ps ih=>
  intro l h;obtain⟨h1,h2⟩:=qHg hc hf h p;simp only[stepsF]
  cases e:stepF m fn l p with
  |none=>exact⟨fun l' e'=>(by simp at e'),fun _=>h2 e⟩
  |some l2=>simpa using ih l2 (h1 l2 e)
def beginF (n:Nat):List Shape:=(List.replicate n (false,[])).set 0 (true,[])
theorem qCq (h:0<fn.code.length):RunF m fn (beginF fn.code.length):=by
 refine⟨by simp[beginF],?_⟩;have e:toS (beginF fn.code.length)=S0:=by
  unfold beginF;rw[qBO qy]
  funext p
  unfold putS S0
  by_cases e:p=0
  · rw[if_pos e,if_pos e]
  · rw[if_neg e,if_neg e]
    unfold toS;rw[List.getElem?_replicate];split<;>simp[shO]
 rw[e];exact qHh h
theorem okF_ok {l:List Shape} (h:okF m fn l p=true):okAt m fn (toS l) p:=by
 intro s hs;have hs:=qDm hs;unfold okF at h;rw[hs] at h
 cases hi:fn.code[p]? with
 |none=>rw[hi] at h;simp at h
 |some i=>
  rw[hi] at h;simp only[Bool.and_eq_true,beq_iff_eq,List.all_eq_true] at h;refine⟨i,_,_,rfl,Prod.ext h.1 rfl,fun k hk z hz=> ?_⟩;injection hz with hz;subst hz;have:=h.2 k hk;split at this
  · rename_i u hu
    exact⟨u,qA7 hu,this⟩
  · cases this
theorem qE3 (hc:checkN m=0) (hf:fn∈m.funcs) (hp:0<fn.code.length) (ps:List Nat) (l:List Shape) (h:stepsF m fn ps (beginF fn.code.length)=some l) (hk:(List.range fn.code.length).all (okF m fn l)=true) (ho:l.all outF=true):Least m fn l:=by
 have hr:=(qGQ hc hf ps _ (qCq hp)).1 l h;refine⟨hr.len,fun p s hs=> ?_,hr.run,fun p hp=>okF_ok (List.all_eq_true.1 hk p (List.mem_range.2 hp))⟩;have:=List.all_eq_true.1 ho _ (qAl hs);simpa[outF] using this
def stkL:Lay (List Typ) where
 k:=1
 R S w cs xs:=∃A c,cs=[.slice A xs.length c]∧xs.length≤c∧c≤maxLen∧(A=none→c=0)∧Sq typL S w A xs
 len:=by rintro S w cs x ⟨A,c,rfl,_⟩;rfl
 keep:=by rintro S w w' cs x ⟨A,c,rfl,h1,h2,h3,h4⟩ hk;exact⟨A,c,rfl,h1,h2,h3,h4.keep hk⟩
 wide:=by rintro S T w cs x ⟨A,c,rfl,h1,h2,h3,h4⟩ hk;exact⟨A,c,rfl,h1,h2,h3,h4.wide hk⟩
 one:=by rintro S w cs x ⟨A,c,rfl,_⟩ u hu;simp at hu;subst hu;rfl
def shpL:Lay Shape where
 k:=2
 R S w cs x:=∃v,cs=[.bool x.1,v]∧stkL.R S w [v] x.2
 len:=by rintro S w cs x ⟨v,rfl,_⟩;rfl
 keep:=by rintro S w w' cs x ⟨v,rfl,h⟩ hk;exact⟨v,rfl,stkL.keep h hk⟩
 wide:=by rintro S T w cs x ⟨v,rfl,h⟩ hk;exact⟨v,rfl,stkL.wide h hk⟩
 one:=by
  rintro S w cs x ⟨v,rfl,h⟩ u hu;simp at hu;rcases hu with rfl|rfl
  · rfl
  · exact stkL.one h _ (by simp)
abbrev rowL:Lay (List Shape):=slL shpL
abbrev mapsL:Lay (List (List Shape)):=slL rowL
theorem qIg {S:Nat→Prop} {l:List Shape} (h:Sq shpL S w A l) {x:Shape} (hk:l[k]? =some x):
 ∃a D c,A=some a∧S a.block∧w.cell? (a.add (k*2))=some (.bool x.1)∧w.cell? ⟨(a.add (k*2)).block,(a.add (k*2)).off+1,none⟩=some (.slice D x.2.length c)∧x.2.length≤c∧c≤maxLen∧(D=none→c=0)∧Sq typL S w D x.2:=by
 obtain⟨a,cs,e,hs,hc,v,rfl,D,c,ev,h1,h2,h3,h4⟩:=h.at hk;simp only[List.cons.injEq,and_true] at ev;subst ev;have c0:=hc 0 _ rfl;have c1:=hc 1 _ rfl;rw[show k*shpL.k+0=k*2 from rfl] at c0;rw[show k*shpL.k+1=k*2+1 from rfl,qAm a (k*2) 1 (by omega)] at c1;exact⟨a,D,c,e,hs,c0,c1,h1,h2,h3,h4⟩
def CS2:List (Bool×Value)→List Value
 |[]=>[]
 |x::xs=> .bool x.1::x.2::CS2 xs
theorem qBe (r:List (Bool×Value)):(CS2 r).length=r.length*2:=by
 induction r with
 |nil=>rfl
 |cons t r ih=>simp[CS2,ih];omega
theorem qES (h:r[j]? =some x):(CS2 r)[j*2]? =some (.bool x.1):=by
 induction r generalizing j with
 |nil=>simp at h
 |cons u r ih=>
  cases j with
  |zero=>simp at h;subst h;simp[CS2]
  |succ j=>rw[show(j+1)*2=j*2+1+1 by omega];simp[CS2];exact ih qy
theorem qER (h:r[j]? =some x):(CS2 r)[j*2+1]? =some x.2:=by
 induction r generalizing j with
 |nil=>simp at h
 |cons u r ih=>
  cases j with
  |zero=>simp at h;subst h;simp[CS2]
  |succ j=>rw[show(j+1)*2+1=j*2+1+1+1 by omega];simp[CS2];exact ih qy
theorem qEQ {b:Bool} (h:r[k]? =some x):(CS2 r).set (k*2) (.bool b)=CS2 (r.set k (b,x.2)):=by
 induction r generalizing k with
 |nil=>simp at h
 |cons u r ih=>
  cases k with
  |zero=>simp at h;subst h;simp[CS2]
  |succ k=>
   rw[show(k+1)*2=k*2+1+1 by omega];simp only[CS2,List.set_cons_succ];rw[ih qy]
theorem qEP (h:r[k]? =some x):(CS2 r).set (k*2+1) v=CS2 (r.set k (x.1,v)):=by
 induction r generalizing k with
 |nil=>simp at h
 |cons u r ih=>
  cases k with
  |zero=>simp at h;subst h;simp[CS2]
  |succ k=>
   rw[show(k+1)*2+1=k*2+1+1+1 by omega];simp only[CS2,List.set_cons_succ];rw[ih qy]
def Bl (ws:List Bool):List Value:=ws.map .bool
theorem qDP (ws:List Bool):(Bl ws).length=ws.length:=by simp[Bl]
theorem qFN {ws:List Bool} {b:Bool} (h:ws[j]? =some b):(Bl ws)[j]? =some (.bool b):=by simp[Bl,h]
theorem Bl_set (ws:List Bool) (k:Nat) (b:Bool):(Bl ws).set k (.bool b)=Bl (ws.set k b):=by simp[Bl,List.map_set]
theorem qHZ {ts:List Typ} {z:Int} (h:ts[k]? =some t):(T2 ts).set (k*2) (.int .i64 z)=T2 (ts.set k (z,t.2)):=by
 induction ts generalizing k with
 |nil=>simp at h
 |cons u ts ih=>
  cases k with
  |zero=>simp at h;subst h;simp[T2]
  |succ k=>
   rw[show(k+1)*2=k*2+1+1 by omega];simp only[T2,List.set_cons_succ];rw[ih qy]
theorem qHY {ts:List Typ} {z:Int} (h:ts[k]? =some t):(T2 ts).set (k*2+1) (.int .i64 z)=T2 (ts.set k (t.1,z)):=by
 induction ts generalizing k with
 |nil=>simp at h
 |cons u ts ih=>
  cases k with
  |zero=>simp at h;subst h;simp[T2]
  |succ k=>
   rw[show(k+1)*2+1=k*2+1+1+1 by omega];simp only[T2,List.set_cons_succ];rw[ih qy]
def Stk (n0:Nat) (w:World) (v:Value) (s:List Typ):Prop:=
 (s=[]∧∃A c,v= .slice A 0 c∧c≤maxLen∧(A=none→c=0))∨(0<s.length∧A64 s∧∃b c,v= .slice (some ⟨b,0,none⟩) s.length c∧s.length≤c∧c≤maxLen∧w.ownsRow n0 41 2 (.slice (some ⟨b,0,none⟩) s.length c) s.length (T2 s))
theorem Stk.shape (h:Stk n0 w v s):∃A c,v= .slice A s.length c∧s.length≤c∧c≤maxLen∧(A=none→c=0):=by
 rcases h with⟨rfl,A,c,rfl,h1,h2⟩|⟨h0,-,b,c,rfl,h1,h2,-⟩
 · exact⟨A,c,rfl,qAq _,h1,h2⟩
 · exact⟨_,c,rfl,h1,h2,fun h=>by cases h⟩
theorem Stk.sq {c:Nat} (h:Stk n0 w (.slice A n c) s):Sq typL (fun b=>n0≤b∧b<w.heap.size) w A s:=by
 rcases h with⟨rfl,-⟩|⟨h0,ha,b,c',e,h1,h2,ho⟩
 · exact Sq.nil _ _ _ _
 · simp only[Value.slice.injEq] at e
   obtain⟨rfl,rfl,rfl⟩:=e;obtain⟨A,c,e,-,-,-,hs⟩:=qCl ho ha;simp only[Value.slice.injEq,true_and] at e;obtain⟨rfl,-⟩:=e;exact hs
theorem Stk.a64 (h:Stk n0 w v s):A64 s:=by
 rcases h with⟨rfl,-⟩|⟨-,h,-⟩
 · exact A64.nil
 · exact h
theorem Stk.keep {w':World} (h:Stk n0 w v s) (hk:0<s.length→∀b,v.ownBlock=some b→w'.heap[b]? =w.heap[b]?):Stk n0 w' v s:=by
 rcases h with h|⟨h0,ha,b,c,rfl,h1,h2,ho⟩
 · exact .inl h
 · refine .inr ⟨h0,ha,b,c,rfl,h1,h2,ho.1,?_⟩
   rcases ho.2 with⟨e,_⟩|⟨g',cap,cur,e,q1,q2,q3⟩
   · cases e
   · refine .inr ⟨g',cap,cur,e,q1,?_,q3⟩
     simp only[Value.slice.injEq,Option.some.injEq,Addr.mk.injEq,and_true,true_and] at e;obtain⟨rfl,-⟩:=e;rw[hk h0 b rfl];exact q2
theorem Stk.own (h:Stk n0 w v s) (h0:0<s.length):∃b,v.ownBlock=some b∧n0≤b∧b<w.heap.size:=by
 rcases h with⟨rfl,-⟩|⟨_,_,b,c,rfl,_,_,ho⟩
 · simp at h0
 · exact⟨b,rfl,ho.lt b rfl⟩
structure Turn (Z:Nat→Option Nat) (w w':World):Prop where
 os:w'.os=w.os
 tape:w'.tape=w.tape
 output:w'.output=w.output
 size:w.heap.size≤w'.heap.size
 block:∀b,b<w.heap.size→Z b=none→w'.heap[b]? =w.heap[b]?
theorem Turn.refl (Z:Nat→Option Nat) (w:World):Turn Z w w:=⟨rfl,rfl,rfl,qAi _,fun _ _ _=>rfl⟩
theorem Turn.trans {Z':Nat→Option Nat} {a b c:World} (h:Turn Z a b) (k:Turn Z' b c) (hz:∀i,i<a.heap.size→Z i=none→Z' i=none):Turn Z a c:=
 ⟨k.os.trans h.os,k.tape.trans h.tape,k.output.trans h.output,qA8 h.size k.size,fun i hi hn=>(k.block i (qAh hi h.size) (hz i hi hn)).trans (h.block i hi hn)⟩
theorem Turn.of_below {a b:World} (h:Below a.heap.size a b):Turn Z a b:=⟨h.os,h.tape,h.output,h.size,fun i hi _=>h.block i hi⟩
theorem Turn.below {a b:World} (h:Turn Z a b) (hn:n0≤a.heap.size) (hz:∀i,i<n0→Z i=none):Below n0 a b:=⟨h.os,h.tape,h.output,h.size,fun i hi=>h.block i (qAh hi hn) (hz i hi)⟩
theorem Turn.set {a b:World} (h:Turn Z a b) {g i:Nat} (hg:Z g≠none) (u:Value):Turn Z a (b.setCell ⟨g,i,none⟩ u):=
 ⟨h.os,h.tape,h.output,by simpa[World.setCell] using h.size,fun k hk hn=>(qA2 b ⟨g,i,none⟩ u k (fun e=>by rw[e] at hn;exact hg hn)).trans (h.block k hk hn)⟩
theorem Turn.then {a b c:World} (h:Turn Z a b) (k:Below b.heap.size b c):Turn Z a c:=h.trans (Turn.of_below (Z:=Z) k) (fun _ _ h=>h)
theorem qBk {w':World} {ty size c:Nat} {xs:List Value} (h:w.ownsRow n0 ty size (.slice (some ⟨p,0,none⟩) n c) n xs) (hk:w'.heap[p]? =w.heap[p]?):w'.ownsRow n0 ty size (.slice (some ⟨p,0,none⟩) n c) n xs:=by
 refine⟨h.1,?_⟩;rcases h.2 with⟨e,_⟩|⟨g',cap,cur,e,q1,q2,q3⟩
 · cases e
 · refine .inr ⟨g',cap,cur,e,q1,?_,q3⟩
   simp only[Value.slice.injEq,Option.some.injEq,Addr.mk.injEq,and_true,true_and] at e;obtain⟨rfl,-⟩:=e;rw[hk];exact q2
theorem qC3 {c:Code} {Q':Exit→Act→World→Prop} {a:Act} (h:c.wp P Q a w) (hQ:∀e a w,Q e a w→Q' e a w):c.wp P Q' a w:=fun b k cs=>by
 obtain⟨e,a',w',hq,harr⟩:=h b k cs;exact⟨e,a',w',hQ _ _ _ hq,harr⟩
theorem qDR {l:Nat} {J J':Act→World→Prop} (h:∀a w,J a w→J' a w):∀e a w,Exit.jump l J Q e a w→Exit.jump l J' Q e a w:=by
 intro e a w hj
 cases e with
 |goto l'=>exact⟨hj.1,h _ _ hj.2⟩
 |normal=>exact hj
 |exit id=>exact hj
 |ret=>exact hj
 |panic ch=>exact hj
 |outgrown=>exact hj
theorem qJG {P:Nat→Prop} (h:∃n,P n):∃m,P m∧∀k,P k→m≤k:=by
 obtain⟨n,hn⟩:=h
 induction n using Nat.strongRecOn with
 |_ n ih=>
  by_cases hk:∃k,k<n∧P k
  · obtain⟨k,h1,h2⟩:=hk
    exact ih k h1 h2
  · exact⟨n,hn,fun k h=>Nat.le_of_not_lt fun h1=>hk ⟨k,h1,h⟩⟩
theorem rank_ex (J:Nat→Act→World→Prop):∃f:Act×World→Nat,∀s:Act×World,(∃n,J n s.1 s.2)→J (f s) s.1 s.2∧∀k,J k s.1 s.2→f s≤k:=by
 refine Classical.axiomOfChoice (r:=fun(s:Act×World) (m:Nat)=>(∃n,J n s.1 s.2)→J m s.1 s.2∧∀k,J k s.1 s.2→m≤k) fun s=> ?_
 by_cases h:∃n,J n s.1 s.2
 · obtain⟨m,hm⟩:=qJG h
   exact⟨m,fun _=>hm⟩
 · exact⟨0,fun h'=>absurd h' h⟩
theorem qDZ {a:Act} {c rest:Code} (l:Nat) (J:Nat→Act→World→Prop) (hf:findLabel c l=some rest)
 (first:c.wp P (Exit.jump l (fun a' w'=>∃n,J n a' w') Q) a w)
 (pass:∀n a w,J n a w→rest.wp P (Exit.jump l (fun a' w'=>∃m,m<n∧J m a' w') Q) a w):(Code.scope c).wp P Q a w:=by
 obtain⟨f,hf2⟩:=rank_ex J;refine wp_scope_jumps l (fun a' w'=>∃n,J n a' w') (fun a' w'=>f (a',w')) hf first ?_;intro a w hJ;refine qC3 (pass _ a w (hf2 (a,w) hJ).1) (qDR ?_);rintro a' w' ⟨m,hm,hJ'⟩;exact⟨⟨m,hJ'⟩,Nat.lt_of_le_of_lt ((hf2 (a',w') ⟨m,hJ'⟩).2 m hJ') hm⟩
theorem qDj {a:Act} {pre rest:Code} {l:Nat} (J:Nat→Act→World→Prop) (hf:findLabel (Code.seq pre (Code.seq (Code.label l) rest)) l=some (Code.seq Code.skip rest))
 (first:pre.wp P (Exit.then (fun a' w'=>∃n,J n a' w') (Exit.jump l (fun _ _=>False) Q)) a w)
 (pass:∀n a w,J n a w→rest.wp P (Exit.jump l (fun a' w'=>∃m,m<n∧J m a' w') Q) a w):(Code.scope (Code.seq pre (Code.seq (Code.label l) rest))).wp P Q a w:=by
 refine qDZ l J hf (wp_seq (qC3 first ?_)) fun n a w h=>wp_seq (wp_skip (pass n a w h));intro e a' w' h
 cases e with
 |normal=>
  obtain⟨n,hn⟩:=h;refine wp_seq (wp_label ?_);exact qC3 (pass n a' w' hn) (qDR fun a w ⟨m,_,h⟩=>⟨m,h⟩)
 |goto l'=>exact absurd h.2 id
 |exit id=>exact h
 |ret=>exact h
 |panic ch=>exact h
 |outgrown=>exact h
def stkU (U:Nat→Prop):Lay (List Typ) where
 k:=1
 R S w cs xs:=∃A c,cs=[.slice A xs.length c]∧xs.length≤c∧c≤maxLen∧(A=none→c=0)∧Sq typL S w A xs∧(0<xs.length→∃b cur,A=some ⟨b,0,none⟩∧S b∧U b∧Blk w b 41 cur∧xs.length*2≤cur.size)
 len:=by rintro S w cs x ⟨A,c,rfl,_⟩;rfl
 keep:=by
  rintro S w w' cs x ⟨A,c,rfl,h1,h2,h3,h4,h5⟩ hk;refine⟨A,c,rfl,h1,h2,h3,h4.keep hk,fun h0=> ?_⟩;obtain⟨b,cur,e,hs,hu,hb,hl⟩:=h5 h0;exact⟨b,cur,e,hs,hu,(hk b hs).trans hb,hl⟩
 wide:=by
  rintro S T w cs x ⟨A,c,rfl,h1,h2,h3,h4,h5⟩ hk;refine⟨A,c,rfl,h1,h2,h3,h4.wide hk,fun h0=> ?_⟩;obtain⟨b,cur,e,hs,hu,hb,hl⟩:=h5 h0;exact⟨b,cur,e,hk b hs,hu,hb,hl⟩
 one:=by rintro S w cs x ⟨A,c,rfl,_⟩ u hu;simp at hu;subst hu;rfl
def shpU (U:Nat→Prop):Lay Shape where
 k:=2
 R S w cs x:=∃v,cs=[.bool x.1,v]∧(stkU U).R S w [v] x.2
 len:=by rintro S w cs x ⟨v,rfl,_⟩;rfl
 keep:=by rintro S w w' cs x ⟨v,rfl,h⟩ hk;exact⟨v,rfl,(stkU U).keep h hk⟩
 wide:=by rintro S T w cs x ⟨v,rfl,h⟩ hk;exact⟨v,rfl,(stkU U).wide h hk⟩
 one:=by
  rintro S w cs x ⟨v,rfl,h⟩ u hu;simp at hu;rcases hu with rfl|rfl
  · rfl
  · exact(stkU U).one h _ (by simp)
def rowU (U:Nat→Prop):Lay (List Shape) where
 k:=1
 R S w cs l:=∃A c,cs=[.slice A l.length c]∧l.length≤c∧c≤maxLen∧Sq (shpU U) S w A l∧(∀a,A=some a→¬U a.block)
 len:=by rintro S w cs x ⟨A,c,rfl,_⟩;rfl
 keep:=by rintro S w w' cs x ⟨A,c,rfl,h1,h2,h3,h4⟩ hk;exact⟨A,c,rfl,h1,h2,h3.keep hk,h4⟩
 wide:=by rintro S T w cs x ⟨A,c,rfl,h1,h2,h3,h4⟩ hk;exact⟨A,c,rfl,h1,h2,h3.wide hk,h4⟩
 one:=by rintro S w cs x ⟨A,c,rfl,_⟩ u hu;simp at hu;subst hu;rfl
theorem Sq.turn {α:Type} {L L':Lay α} {S T:Nat→Prop} {xs:List α} (h:Sq L S w A xs) (hk:L'.k=L.k) (hT:∀a,A=some a→S a.block→T a.block) (hR:∀cs x,x∈xs→L.R S w cs x→L'.R T w cs x):Sq L' T w A xs:=fun hn=>by
 obtain⟨a,e,hs,hc⟩:=h hn;refine⟨a,e,hT a e hs,fun j x hx=> ?_⟩;obtain⟨cs,h1,h2⟩:=hc j x hx;exact⟨cs,by rw[hk];exact h1,hR cs x (qAl hx) h2⟩
theorem qGP {S:Nat→Prop} {x:List Typ} (h:(stkU U).R S w cs x):stkL.R S w cs x:=by
 obtain⟨A,c,e,h1,h2,h3,h4,-⟩:=h;exact⟨A,c,e,h1,h2,h3,h4⟩
theorem qGR {S:Nat→Prop} {x:Shape} (h:(shpU U).R S w cs x):shpL.R S w cs x:=by
 obtain⟨v,e,h1⟩:=h;exact⟨v,e,qGP h1⟩
theorem qGY {S:Nat→Prop} {x:List Shape} (h:(rowU U).R S w cs x):rowL.R S w cs x:=by
 obtain⟨A,c,e,h1,h2,h3,-⟩:=h;exact⟨A,c,e,h1,h2,h3.turn rfl (fun _ _ h=>h) fun cs x _ h=>qGR h⟩
theorem qFY {U' S:Nat→Prop} {x:List Shape} (h:(rowU U).R S w cs x) (hU:∀b,S b→(U b↔U' b)) (h0:0<x.length):(rowU U').R S w cs x:=by
 obtain⟨A,c,e,h1,h2,h3,h4⟩:=h;obtain⟨a,ea,hs,-⟩:=h3 h0;refine⟨A,c,e,h1,h2,h3.turn rfl (fun _ _ h=>h) fun cs x _ h=> ?_,fun a' e' hu=> ?_⟩
 · obtain⟨v,e,A,c,e2,q1,q2,q3,q4,q5⟩:=h
   refine⟨v,e,A,c,e2,q1,q2,q3,q4,fun h0=> ?_⟩;obtain⟨b,cur,p1,p2,p3,p4⟩:=q5 h0;exact⟨b,cur,p1,p2,(hU b p2).1 p3,p4⟩
 · rw[ea] at e'
   injection e' with e';subst e';exact h4 a ea ((hU _ hs).2 hu)
end Go.Proofs.YtelceoecekfamaaGreat
