/-
Gu Vl Ga Gh Ge Go
-/
import Derived.Test.YtgdbhanhmenmfaaGreatQ01
import Derived.Test.YtgdbhanhmenmfaaGreatQ03
import Derived.Test.YtgdbhanhmenmfaaGreatQ05
import Derived.Test.YtgdbhanhmenmfaaGreatQ09
import Derived.Test.YtgdbhanhmenmfaaGreatQ11
import Derived.BigQuiet
import Derived.Deep.DeepCutAuto
import Derived.Lib.QuietBelow
import Derived.Laws.EntriesVeiled
set_option linter.unusedSimpArgs false
set_option linter.unusedVariables false
set_option maxRecDepth 100000
set_option maxHeartbeats 4000000
namespace Go.Proofs.YtgdbhanhmenmfaaGreat
open Go.RowKit
variable {A:Option Addr}{S:Nat→Prop}{k:Nat}{m:Mod}{o:Ob}{p:Addr}{s:Stt}{v w:World}
theorem qc {P:Prop} (h:P:=by
 go_enter Tryz.func93,Tryz.ntmps93
 go_wp2_with fail
 go_ret;exact⟨by rw[HO.out];simp;omega,HB0.out _⟩):P:=h
theorem qk {P:Prop} (h:P:=by
 generalize y.1=k1 at*;generalize y.2=k2 at*
 go_enter Tryz.func90,Tryz.ntmps90
 go_wp2_with fail
 go_ret;exact⟨by rw[HT.out];rfl,HB0.out _⟩):P:=h
theorem zU {P:Prop} (h:P:=by
 have t0:(nn != 0)=true:=by simpa using f0
 have HF:=qBK f0;clear f0
 go_enter Tryz.func93,Tryz.ntmps93
 go_wp2_with fail
 go_ret;exact⟨by rw[HO.out];simp[HF.out],HB0.out _⟩):P:=h
theorem qDX (m n:Int) (w:World):Calls Tryz.prog 86 #[.int .i64 m,.int .i64 n] w fun e w'=>e= .returned (.bool (decide (0≤n∧n≤m)))∧w'=w:=by
 by_cases h0:0≤n
 all_goals by_cases h1:n≤m
 all_goals
  go_enter Tryz.func86,Tryz.ntmps86
  go_wp2_with fail
  go_ret;exact⟨by simp[h0,h1],rfl⟩
theorem qMf (m n:Int) (w:World):Calls Tryz.prog 86 #[.int .i64 m,.int .i64 n] w (Tells (decide (0≤n∧n≤m)) w):=(qDX m n w).mono fun e w' h=>⟨h.1,by rw[h.2];exact qBO _ _⟩
theorem qDh (x:Hnd) (w:World) (cs:List Value) (hr:hdL.R (·<w.heap.size) w cs x):Calls Tryz.prog 53 #[vAgg cs] w (Tells (!handB x) w):=by
 obtain⟨rfl,-,-⟩:=hr
 show Calls Tryz.prog 53 #[.agg #[.int .i64 x.kind,.int .u64 (x.desc:Int),.bool x.opn]] w (Tells (!handB x) w)
 have HC:Hid (∀w1,Calls Tryz.prog 86 #[.int .i64 3,.int .i64 x.kind] w1 (Tells (handB x) w1)):=fun w1=>qMf 3 x.kind w1;generalize handB x=gd at*;generalize x.kind=q1 at*;generalize x.desc=q2 at*;generalize x.opn=q3 at*;refine jk ?_;intro HB0
 go_enter Tryz.func53,Tryz.ntmps53
 go_wp2_with (first|(go_at_call 86;refine(HC.out _).mono ?_;rintro e w1 ⟨rfl,hb⟩;have HB:=qBK ((HB0.out _).trans (hb.mono (by simp)));clear hb))
 go_ret;exact⟨rfl,HB.out⟩
theorem qG0 (s:Stt):countB s=(decide (0≤s.quota∧s.quota≤65536) && decide (0≤s.used∧s.used≤s.quota) && decide (0≤s.fin∧s.fin≤7) && !decide (8<s.fr.length) && !decide (4096<s.hp.length) && !decide (16<s.hn.length)):=by
 rw[Bool.eq_iff_iff];simp only[countB,Bool.and_eq_true,decide_eq_true_eq,Bool.not_eq_true',decide_eq_false_iff_not]
 omega
theorem qFE (cs:List Value) (s:Stt) (w:World) (h:stL.R (·<w.heap.size) w cs s):Calls Tryz.prog 49 #[vAgg cs] w (Tells (!countB s) w):=by
 obtain⟨A0,c0,A1,c1,A2,c2,rfl,k0,k0',k1,k1',k2,k2',-,-,-,-,-,-,-⟩:=qCV h;unfold maxLen at k0' k1' k2';have T0:Hid (∀w1,Calls Tryz.prog 86 #[.int .i64 65536,.int .i64 s.quota] w1 fun e w'=>e= .returned (.bool (decide (0≤s.quota∧s.quota≤65536)))∧w'=w1):=fun w1=>qDX _ _ w1;have T1:Hid (∀w1,Calls Tryz.prog 86 #[.int .i64 s.quota,.int .i64 s.used] w1 fun e w'=>e= .returned (.bool (decide (0≤s.used∧s.used≤s.quota)))∧w'=w1):=fun w1=>qDX _ _ w1;have T2:Hid (∀w1,Calls Tryz.prog 86 #[.int .i64 7,.int .i64 s.fin] w1 fun e w'=>e= .returned (.bool (decide (0≤s.fin∧s.fin≤7)))∧w'=w1):=fun w1=>qDX _ _ w1
 show Calls Tryz.prog 49 #[.agg #[.slice A0 s.fr.length c0,.slice A1 s.hp.length c1,.slice A2 s.hn.length c2,.int .i64 s.quota,.int .i64 s.used,.int .i64 s.fin,.int .u64 (s.val:Int)]] w (Tells (!countB s) w)
 rw[qG0];clear h k0 k0' k1 k1' k2 k2';have i0:∀n m:Nat,decide (n<m)=decide ((n:Int)<(m:Int)):=fun n m=>by rw[Bool.eq_iff_iff];simp
 rw[i0,i0,i0];clear i0;generalize s.fr.length=n0 at*;generalize s.hp.length=n1 at*;generalize s.hn.length=n2 at*;generalize decide (0≤s.quota∧s.quota≤65536)=b0 at*;generalize decide (0≤s.used∧s.used≤s.quota)=b1 at*;generalize decide (0≤s.fin∧s.fin≤7)=b2 at*;generalize s.quota=q1 at*;generalize s.used=q2 at*;generalize s.fin=q3 at*;generalize (s.val:Int)=q4 at*;refine jk ?_;intro HB0;rcases b0 with _|_;rotate_left;rcases b1 with _|_;rotate_left;rcases b2 with _|_;rotate_left
 by_cases g0:(8:Int)<(n0:Int)
 rotate_left
 by_cases g1:(4096:Int)<(n1:Int)
 rotate_left
 by_cases g2:(16:Int)<(n2:Int)
 all_goals
  go_enter Tryz.func49,Tryz.ntmps49
  go_wp2_with (first
   |(go_at_call 86;(with_reducible refine(T2.out _).mono ?_);rintro e w1 ⟨rfl,rfl⟩)
   |(go_at_call 86;(with_reducible refine(T0.out _).mono ?_);rintro e w1 ⟨rfl,rfl⟩)
   |(go_at_call 86;(with_reducible refine(T1.out _).mono ?_);rintro e w1 ⟨rfl,rfl⟩))
  go_ret;exact⟨by simp[*],HB0.out _⟩
def stkL:Lay (List Typ) where
 k:=1
 R S w cs xs:=∃A c,cs=[.slice A xs.length c]∧xs.length≤c∧c≤maxLen∧(A=none→c=0)∧Sq typL S w A xs
 len:=by rintro S w cs x ⟨A,c,rfl,_⟩;rfl
 keep:=by rintro S w w' cs x ⟨A,c,rfl,h1,h2,h3,h4⟩ hk;exact⟨A,c,rfl,h1,h2,h3,h4.keep hk⟩
 wide:=by rintro S T w cs x ⟨A,c,rfl,h1,h2,h3,h4⟩ hk;exact⟨A,c,rfl,h1,h2,h3,h4.wide hk⟩
 one:=by rintro S w cs x ⟨A,c,rfl,_⟩ u hu;simp at hu;subst hu;rfl
def shpL:Lay Shape where
 k:=2
 R S w cs x:=∃v,cs=[.bool x.1,v]∧stkL.R S w [v] x.2
 len:=by rintro S w cs x ⟨v,rfl,_⟩;rfl
 keep:=by rintro S w w' cs x ⟨v,rfl,h⟩ hk;exact⟨v,rfl,stkL.keep h hk⟩
 wide:=by rintro S T w cs x ⟨v,rfl,h⟩ hk;exact⟨v,rfl,stkL.wide h hk⟩
 one:=by
  rintro S w cs x ⟨v,rfl,h⟩ u hu;simp at hu;rcases hu with rfl|rfl
  · rfl
  · exact stkL.one h _ (by simp)
abbrev rowL:Lay (List Shape):=slL shpL
abbrev mapsL:Lay (List (List Shape)):=slL rowL
theorem qHK {l:List Shape} (h:Sq shpL S w A l) {x:Shape} (hk:l[k]? =some x):
 ∃a D c,A=some a∧S a.block∧w.cell? (a.add (k*2))=some (.bool x.1)∧w.cell? ⟨(a.add (k*2)).block,(a.add (k*2)).off+1,none⟩=some (.slice D x.2.length c)∧x.2.length≤c∧c≤maxLen∧(D=none→c=0)∧Sq typL S w D x.2:=by
 obtain⟨a,cs,e,hs,hc,v,rfl,D,c,ev,h1,h2,h3,h4⟩:=h.at hk;simp only[List.cons.injEq,and_true] at ev;subst ev;have c0:=hc 0 _ rfl;have c1:=hc 1 _ rfl;rw[show k*shpL.k+0=k*2 from rfl] at c0;rw[show k*shpL.k+1=k*2+1 from rfl,qBT a (k*2) 1 (by omega)] at c1;exact⟨a,D,c,e,hs,c0,c1,h1,h2,h3,h4⟩
theorem qHN {L:List (List Shape)} (h:Sq rowL S w A L) {l:List Shape} (hk:L[k]? =some l):
 ∃a D c,A=some a∧S a.block∧w.cell? (a.add k)=some (.slice D l.length c)∧l.length≤c∧c≤maxLen∧Sq shpL S w D l:=by
 obtain⟨a,cs,e,hs,hc,D,c,rfl,h1,h2,h3⟩:=h.at hk;have c0:=hc 0 _ rfl;rw[show k*rowL.k+0=k by show k*1+0=k;omega] at c0;exact⟨a,D,c,e,hs,c0,h1,h2,h3⟩
theorem qCE {α:Type} {La:Lay α} {xs:List α} (h:Sq La (·<w.heap.size) w A xs) (hb:Below w.heap.size w v):Sq La (·<v.heap.size) v A xs:=(h.keep fun b h1=>hb.block b h1).wide fun b h1=>qBN h1 hb.size
def AtIs (o:Option (List Typ)) (B:Nat) (w:World) (e:Ending):Prop:=
 match o with
 |none=>e= .returned (.tuple #[.slice none 0 0,.bool false])
 |some ts=>∃A c,e= .returned (.tuple #[.slice A ts.length c,.bool true])∧ts.length≤c∧c≤maxLen∧Sq typL (·<B) w A ts
theorem qOM {fs:List Fn} (h:Sq fnL S w A fs) {fn:Fn} (hk:fs[k]? =some fn):
 ∃a P0 c0 P1 c1 P2 c2,A=some a∧S a.block∧w.cell? (a.add (k*5))=some (.slice P0 fn.args.length c0)∧w.cell? ⟨(a.add (k*5)).block,(a.add (k*5)).off+1,none⟩=some (.int .i64 fn.ret.1)∧w.cell? ⟨(a.add (k*5)).block,(a.add (k*5)).off+2,none⟩=some (.int .i64 fn.ret.2)∧
  w.cell? ⟨(a.add (k*5)).block,(a.add (k*5)).off+3,none⟩=some (.slice P1 fn.locs.length c1)∧w.cell? ⟨(a.add (k*5)).block,(a.add (k*5)).off+4,none⟩=some (.slice P2 fn.code.length c2)∧tysL.R S w [.slice P0 fn.args.length c0] fn.args∧tysL.R S w [.slice P1 fn.locs.length c1] fn.locs∧codL.R S w [.slice P2 fn.code.length c2] fn.code:=by
 obtain⟨a,cs,e,hs,hc,p0,p1,p2,rfl,-,-,⟨P0,c0,e4,q0⟩,⟨P1,c1,e5,q1⟩,⟨P2,c2,e6,q2⟩⟩:=h.at hk;simp only[List.cons.injEq,and_true] at e4 e5 e6;subst e4 e5 e6;have k0:=hc 0 _ rfl;have k1:=hc 1 _ rfl;have k2:=hc 2 _ rfl;have k3:=hc 3 _ rfl;have k4:=hc 4 _ rfl;rw[show k*fnL.k+0=k*5 from rfl] at k0;rw[show k*fnL.k+1=k*5+1 from rfl,qBT a (k*5) 1 (by omega)] at k1;rw[show k*fnL.k+2=k*5+2 from rfl,qBT a (k*5) 2 (by omega)] at k2;rw[show k*fnL.k+3=k*5+3 from rfl,qBT a (k*5) 3 (by omega)] at k3;rw[show k*fnL.k+4=k*5+4 from rfl,qBT a (k*5) 4 (by omega)] at k4;exact⟨a,P0,c0,P1,c1,P2,c2,e,hs,k0,k1,k2,k3,k4,⟨P0,c0,rfl,q0⟩,⟨P1,c1,rfl,q1⟩,⟨P2,c2,rfl,q2⟩⟩
theorem qBt {u:Value} (h:w.cell? p=some u) (hb:Below w.heap.size w v):v.cell? p=some u:=(hb.cell (qBR w _ h)).trans h
theorem qE5 (D:Option Addr) (n c:Nat) (L:List (List Shape)) (f pc:Int) (w:World) (hl:L.length=n) (hL:Sq rowL (·<w.heap.size) w D L) (hn:n≤9223372036854775807) (hf:I64 f) (hp:I64 pc):
 Calls Tryz.prog 96 #[.slice D n c,.int .i64 f,.int .i64 pc] w fun e w'=>w'=w∧AtIs (atB L f pc) w.heap.size w e:=by
 unfold I64 at hf hp;have wr:IntKind.i64.wrap ((n:Int)-1)=(n:Int)-1:=by rw[qBi];omega
 have U0:=qBK (qDX ((n:Int)-1) f w)
 by_cases hin:0≤f∧f<(n:Int)
 rotate_left
 · have HO:Hid (atB L f pc=none):=by
    show _=_
    by_cases h0:f<0
    · exact qLG (.inl h0)
    · exact atB_out (by omega)
   rw[decide_eq_false (by omega:¬(0≤f∧f≤(n:Int)-1))] at U0;clear hin hL hl
   go_enter Tryz.func96,Tryz.ntmps96
   go_wp2_with (first|(go_at_call 86;(with_reducible refine U0.out.mono ?_);rintro e w1 ⟨rfl,rfl⟩))
   go_ret2;rw[HO.out];exact⟨rfl,rfl⟩
 rw[decide_eq_true (by omega:(0≤f∧f≤(n:Int)-1))] at U0;obtain⟨j,rfl⟩:∃j:Nat,f=(j:Int):=⟨f.toNat,by omega⟩;obtain⟨l,hx⟩:∃l,L[j]? =some l:=⟨L[j]'(by omega),List.getElem?_eq_getElem _⟩;obtain⟨a,E,ce,rfl,hab,q0,hle,hcm,hsq⟩:=qHN hL hx;obtain⟨ul,hul⟩:∃ul,l.length=ul:=⟨_,rfl⟩;rw[hul] at q0 hle;unfold maxLen at hcm;have wr2:IntKind.i64.wrap ((ul:Int)-1)=(ul:Int)-1:=by rw[qBi];omega
 have U1:=qBK (qDX ((ul:Int)-1) pc w);have j0:(0:Int)≤(j:Int):=by omega
 have j1:(j:Int)<(n:Int):=by omega
 by_cases hip:0≤pc∧pc<(ul:Int)
 rotate_left
 · have HO:Hid (atB L (j:Int) pc=none):=by
    show _=_
    by_cases h0:pc<0
    · exact qLG (.inr h0)
    · have:=qOk (L:=L) (f:=j) (pc:=pc.toNat) hx (by omega)
      rwa [show((pc.toNat:Nat):Int)=pc by omega] at this
   rw[decide_eq_false (by omega:¬(0≤pc∧pc≤(ul:Int)-1))] at U1;clear hin hip hL hl hx hsq
   go_enter Tryz.func96,Tryz.ntmps96
   go_wp2_with (first
    |(go_at_call 86;(with_reducible refine U0.out.mono ?_);rintro e w1 ⟨rfl,rfl⟩)
    |(go_at_call 86;(with_reducible refine U1.out.mono ?_);rintro e w1 ⟨rfl,rfl⟩))
   go_ret2;rw[HO.out];exact⟨rfl,rfl⟩
 rw[decide_eq_true (by omega:(0≤pc∧pc≤(ul:Int)-1))] at U1;obtain⟨p,rfl⟩:∃p:Nat,pc=(p:Int):=⟨pc.toNat,by omega⟩;obtain⟨⟨sb,u⟩,hy⟩:∃y,l[p]? =some y:=⟨l[p]'(by omega),List.getElem?_eq_getElem _⟩;obtain⟨aE,G,g,rfl,hgb,r0,r1,gle,gcm,-,gsq⟩:=qHK hsq hy;simp only at r0 r1 gle gsq;have HO:=qBK (qGE hx hy);have p0:(0:Int)≤(p:Int):=by omega
 have p1:(p:Int)<(ul:Int):=by omega
 have HG:Hid (u.length≤g∧g≤maxLen∧Sq typL (·<w.heap.size) w G u):=⟨gle,gcm,gsq⟩;clear hin hip hL hl hx hsq hy gle gcm gsq;obtain⟨k,hk⟩:∃k,u.length=k:=⟨_,rfl⟩;have HK:=qBK hk;rw[hk] at r1 HG;clear hk
 cases sb
 all_goals
  go_enter Tryz.func96,Tryz.ntmps96
  go_wp2_with (first
   |(go_at_call 86;(with_reducible refine U0.out.mono ?_);rintro e w1 ⟨rfl,rfl⟩)
   |(go_at_call 86;(with_reducible refine U1.out.mono ?_);rintro e w1 ⟨rfl,rfl⟩))
  go_ret2;rw[HO.out]
 · exact⟨rfl,rfl⟩
 · refine⟨rfl,G,g,?_⟩
   rw[HK.out];exact⟨rfl,HG.out⟩
theorem qFa (A0 A1 A2 A3 A4 D B0 B1:Option Addr) (n0 n1 n2 n3 n4 d0 d1 d2 d3 d4 n c e0 e1:Nat) (m:Mod) (L:List (List Shape)) (f:Frm) (g:Int) (w:World) (h:modL.R (·<w.heap.size) w [.slice A0 n0 d0,.slice A1 n1 d1,.slice A2 n2 d2,.slice A3 n3 d3,.slice A4 n4 d4] m) (hc:checkN m=0) (hL:RightM m L)
 (hl:L.length=n) (hS:Sq rowL (·<w.heap.size) w D L) (hn:n≤9223372036854775807) (hf:I64 f.fn) (hp:I64 f.pc) (hp0:0≤f.pc) (hg:I64 g):
 Calls Tryz.prog 97 #[.agg #[.slice A0 n0 d0,.slice A1 n1 d1,.slice A2 n2 d2,.slice A3 n3 d3,.slice A4 n4 d4],.slice D n c,.agg #[.int .i64 f.fn,.int .i64 f.pc,.slice B0 f.locs.length e0,.slice B1 f.stk.length e1],.int .i64 g] w fun e w'=>Below w.heap.size w w'∧AtIs (belowB m L f.fn f.pc g) w'.heap.size w' e:=by
 unfold I64 at hf hp hg;have wr:IntKind.i64.wrap (f.pc-1)=f.pc-1:=by rw[qBi];omega
 have SA:Hid (∀w1,Below w.heap.size w w1→Calls Tryz.prog 96 #[.slice D n c,.int .i64 f.fn,.int .i64 (f.pc-1)] w1 fun e w'=>w'=w1∧AtIs (atB L f.fn (f.pc-1)) w1.heap.size w1 e):=fun w1 hb=>
  qE5 D n c L f.fn (f.pc-1) w1 hl (qCE hS hb) hn hf ⟨by omega,by omega⟩
 have HBB:Hid (∀o1 o2:Obj,Below w.heap.size w ((w.alloc o1).alloc o2)):=fun o1 o2=>((qBO _ _).alloc (qBL _) _).alloc (by simp) _;obtain⟨b0,hb0⟩:∃b0,f.locs.length=b0:=⟨_,rfl⟩;obtain⟨b1,hb1⟩:∃b1,f.stk.length=b1:=⟨_,rfl⟩;rw[hb0,hb1];clear hb0 hb1
 cases hat:atB L f.fn (f.pc-1) with
 |none=>
  have HO:=qBK (qG7 (m:=m) (g:=g) hat);rw[hat] at SA;clear h hc hL hl hS hat;generalize belowB m L f.fn f.pc g=o at*;generalize f.fn=ff at*;generalize f.pc=fp at*
  go_enter Tryz.func97,Tryz.ntmps97
  go_wp2_with (first
   |(go_at_call 96
     refine(SA.out _ (HBB.out _ _)).mono ?_;rintro e w1 ⟨rfl,rfl⟩))
  go_quiet (fail)
  go_wp2_with fail
  go_ret2;rw[HO.out];exact⟨(HBB.out _ _).trans ((qBj _ _).mono qK),rfl⟩
 |some u=>
  obtain⟨j,p,fn,l,i,hj,hpp,hfn,hlr,hlp,hi,hu8⟩:=qDU hL hat;have hp1:f.pc=(p:Int)+1:=by omega
  have HO:=qBK (qG8 (m:=m) (g:=g) hfn hlr hlp hi);have HCT:=qBK (fun h25=>qKV hc hL hfn hlr hlp hi h25);obtain⟨_,_,_,_,_,ex,q0,⟨A1',d1',ex1,l1,m1,s1⟩,q2,q3,q4⟩:=h;simp only[List.cons.injEq,and_true] at ex;obtain⟨rfl,rfl,rfl,rfl,rfl⟩:=ex;simp only[List.cons.injEq,Value.slice.injEq,and_true] at ex1;obtain⟨rfl,h1,rfl⟩:=ex1;obtain⟨a,P0,c0,P1,c1,P2,c2,rfl,hab,k0,k1,k2,k3,k4,t0,t1,t2⟩:=qOM s1 hfn;obtain⟨_,_,et,-,-,sc⟩:=t2;simp only[List.cons.injEq,Value.slice.injEq,and_true] at et;obtain⟨rfl,-,rfl⟩:=et;obtain⟨ac,csc,rfl,hacb,hcc,rfl,-⟩:=sc.at hi;have w0:=hcc 0 _ rfl;have w1:=hcc 1 _ rfl;have w2:=hcc 2 _ rfl;rw[show p*insL.k+0=p*3 from rfl] at w0;rw[show p*insL.k+1=p*3+1 from rfl,qBT ac (p*3) 1 (by omega)] at w1;rw[show p*insL.k+2=p*3+2 from rfl,qBT ac (p*3) 2 (by omega)] at w2;have hjn:j<n1:=by rw[h1];exact(qBM.1 hfn).1
  have hpn:p<fn.code.length:=(qBM.1 hi).1;obtain⟨o,x,y⟩:=i;simp only at w0 w1 w2 HO HCT;have z0:=fun o1 o2=>qBt w0 (HBB.out o1 o2);have z1:=fun o1 o2=>qBt w1 (HBB.out o1 o2);have z2:=fun o1 o2=>qBt w2 (HBB.out o1 o2);have z4:=fun o1 o2=>qBt k4 (HBB.out o1 o2);have hj0:(0:Int)≤(j:Int):=by omega
  have hj1:(j:Int)<(n1:Int):=by omega
  have hp00:(0:Int)≤(p:Int):=by omega
  have hp01:(p:Int)<(fn.code.length:Int):=by omega
  have wr2:IntKind.i64.wrap ((p:Int)+1-1)=(p:Int):=by rw[qBi];omega
  have wr3:IntKind.i64.wrap (p:Int)=(p:Int):=by rw[qBi];omega
  rw[hat] at SA;rw[hj,hp1,show(p:Int)+1-1=(p:Int) by omega] at SA;rw[hj,hp1]
  by_cases hq:o=25∧x=g∧y=0
  rotate_left
  · have HO2:Hid (belowB m L (j:Int) ((p:Int)+1) g=none):=by
     show _=_
     rw[HO.out]
     by_cases h25:o=25∧x=g
     · obtain⟨g',h',-,hy,-⟩:=HCT.out h25.1
       exact absurd ⟨h25.1,h25.2,hy⟩ hq
     · rw[if_neg h25]
    clear hL hl hS hat hfn hlr hlp hi q0 q2 q3 q4 s1 sc hcc hc hj hp1 hpp t0 t1 w0 w1 w2 k0 k1 k2 k3 k4 HCT HO hf hp hp0 h1 l1 m1;generalize belowB m L (j:Int) ((p:Int)+1) g=ob at*;generalize fn.code.length=nc at*;have nq:∀w,(binOp .neq 65 (.agg #[.int .i64 o,.int .i64 x,.int .i64 y]) (.agg #[.int .i64 25,.int .i64 g,.int .i64 0])).run Tryz.prog w= .ok (.bool true) w:=by
     intro w
     go_simp
     exact fun a b c=>hq ⟨a,b,c⟩
    go_enter Tryz.func97,Tryz.ntmps97
    go_wp2_with (first
     |(go_at_call 96
       (with_reducible refine(SA.out _ (HBB.out _ _)).mono ?_)
       rintro e w1 ⟨rfl,B,bc,rfl,b3,b4,b5⟩))
    go_quiet (fail)
    go_wp2_with fail
    all_goals
     go_ret2;rw[HO2.out];exact⟨(HBB.out _ _).trans ((qBj _ _).mono qK),rfl⟩
  obtain⟨rfl,rfl,rfl⟩:=hq;obtain⟨gn,h',rfl,-,hgf,hle⟩:=HCT.out rfl;rw[if_pos ⟨rfl,rfl⟩] at HO;simp only[Int.toNat_natCast,hgf] at HO;obtain⟨a',Q0,e0',Q1,e1',Q2,e2',ea',-,r0,-,-,-,-,⟨_,_,et,v1,v2,-⟩,-,-⟩:=qOM s1 hgf;injection ea' with ea';subst ea';simp only[List.cons.injEq,Value.slice.injEq,and_true] at et;obtain⟨rfl,-,rfl⟩:=et;have hgn:gn<n1:=by rw[h1];exact(qBM.1 hgf).1
  have zg:=fun o1 o2=>qBt r0 (HBB.out o1 o2);have hg0:(0:Int)≤(gn:Int):=by omega
  have hg1:(gn:Int)<(n1:Int):=by omega
  obtain⟨na,hna⟩:∃na,h'.args.length=na:=⟨_,rfl⟩;obtain⟨nu,hnu⟩:∃nu,u.length=nu:=⟨_,rfl⟩;obtain⟨q,hq⟩:∃q,nu=na+q:=⟨nu-na,by omega⟩;have HNU:=qBK hnu;have HQ:=qBK hq;have HNA:=qBK hna;rw[hna] at zg;rw[hna,hnu] at HO hle;have e1w:IntKind.i64.wrap ((nu:Int)-(na:Int))=(q:Int):=by rw[qBi];omega
  rw[show nu-na=q by omega] at HO;clear hL hl hS hat hfn hlr hlp hi q0 q2 q3 q4 s1 sc hcc hc hj hp1 hpp t0 t1 w0 w1 w2 k0 k1 k2 k3 k4 HCT hf hp hp0 hgf r0 hna h1 l1 m1 hq;have SA2:Hid (∀w1,Below w.heap.size w w1→Calls Tryz.prog 96 #[.slice D n c,.int .i64 (j:Int),.int .i64 (p:Int)] w1 fun e w'=>w'=w1∧∃B bc,e= .returned (.tuple #[.slice B nu bc,.bool true])∧nu≤bc∧bc≤maxLen∧Sq typL (·<w1.heap.size) w1 B u):=fun w1 hb=>(SA.out w1 hb).mono fun e w' qq=>⟨qq.1,by obtain⟨B,bc,h1,h2⟩:=qq.2;rw[hnu] at h1 h2;exact⟨B,bc,h1,h2⟩⟩;clear SA hnu;generalize belowB m L (j:Int) ((p:Int)+1) (gn:Int)=ob at*;generalize fn.code.length=nc at*
  go_enter Tryz.func97,Tryz.ntmps97
  go_wp2_with (first
   |(go_at_call 96
     (with_reducible refine(SA2.out _ (HBB.out _ _)).mono ?_)
     rintro e w1 ⟨rfl,B,bc,rfl,b3,b4,b5⟩;have HB5:=qBK b5;have b6:(q:Int)≤(bc:Int):=(by have:=HQ.out;omega);have HB4:=qBK b4;clear b5 b4))
  go_quiet (fail)
  go_wp2_with fail
  go_ret2;refine⟨(HBB.out _ _).trans ((qBj _ _).mono qK),?_⟩;rw[HO.out];have hlen:(u.take q).length=q:=by rw[List.length_take,HNU.out,HQ.out];omega
  refine⟨B,bc,by rw[hlen];rfl,by rw[hlen];omega,HB4.out,?_⟩;exact(HB5.out.take q).keep fun _ _=>rfl
theorem qCk (Q:Nat) (A0 A1 A2:Option Addr) (n0 c0 n1 c1 n2 c2:Nat) (v3 v4 v5 v6:Value) (s:Stt) (x:Nat) (y:Typ) (w:World) (hQ:C7 Q (.slice A0 n0 c0) (.slice A1 n1 c1) (.slice A2 n2 c2) v3 v4 v5 v6 w) (h1:s.hp.length=n1) (h2:s.hn.length=n2)
 (hp:Sq obL (·<w.heap.size) w A1 s.hp) (hn:Sq hdL (·<w.heap.size) w A2 s.hn) (b1:n1≤9223372036854775807) (b2:n2≤9223372036854775807) (hx:x<B64) (y1:I64 y.1) (y2:I64 y.2):
 Calls Tryz.prog 90 #[.int .u64 (x:Int),.agg #[.int .i64 y.1,.int .i64 y.2],.pointer (some ⟨Q,0,none⟩)] w (Tells (hasT s x y) w):=by
 refine jk ?_;intro HB0;have hQb:=qBR w _ hQ.1;simp only at hQb;unfold B64 at hx;have q1:∀o,(w.alloc o).cell? ⟨Q,1,none⟩=some (.slice A1 n1 c1):=fun o=>((HB0.out o).cell (p:=⟨Q,1,none⟩) hQb).trans hQ.2.1;have q2:∀o,(w.alloc o).cell? ⟨Q,2,none⟩=some (.slice A2 n2 c2):=fun o=>((HB0.out o).cell (p:=⟨Q,2,none⟩) hQb).trans hQ.2.2.1
 by_cases e1:y.1=1
 · have HT:=qBK (qIv (s:=s) (v:=x) (t:=y) (.inl e1))
   have t1:(y.1==1)=true:=by simpa using e1
   clear e1 hp hn hQ;generalize hasT s x y=g at*;exact qk
 have t1:(y.1==1)=false:=by simpa using e1
 by_cases e8:y.1=8
 · have HT:=qBK (qIv (s:=s) (v:=x) (t:=y) (.inr e8))
   have t8:(y.1==8)=true:=by simpa using e8
   clear e1 e8 hp hn hQ;generalize hasT s x y=g at*;exact qk
 have t8:(y.1==8)=false:=by simpa using e8
 by_cases e5:y.1=5
 · have t5:(y.1==5)=true:=by simpa using e5
   by_cases hlt:x<n2
   · obtain⟨h,hh⟩:∃h,s.hn[x]? =some h:=⟨s.hn[x]'(by rw[h2];exact hlt),List.getElem?_eq_getElem _⟩
     have HT:=qBK (qOD (s:=s) (v:=x) (t:=y) e5 hh);obtain⟨a,cs,rfl,hab,hc,rfl,-⟩:=hn.at hh;have c0:∀o,(w.alloc o).cell? (a.add (x*3))=some (.int .i64 h.kind):=fun o=>((HB0.out o).cell (p:=a.add (x*3)) qD).trans (hc 0 _ rfl);have HD:Hid (decide (h.kind=y.2)=(h.kind==y.2)):=by show _=_;rw[Bool.eq_iff_iff];simp
     have x0:(0:Int)≤(x:Int):=by omega
     have x1:(x:Int)<(n2:Int):=by omega
     clear e1 e8 e5 hp hn hQ hc hh;generalize hasT s x y=g at*;generalize y.1=k1 at*;generalize y.2=k2 at*;generalize h.kind=k3 at*
     go_enter Tryz.func90,Tryz.ntmps90
     go_wp2_with fail
     go_quiet (fail)
     go_wp2_with fail
     go_ret;exact⟨by rw[HT.out,HD.out];rfl,(HB0.out _).trans ((qBj _ _).mono (by simp))⟩
   · have HT:=qBK (qIw (s:=s) (v:=x) (t:=y) e5 (by omega))
     have x1:¬(x:Int)<(n2:Int):=by omega
     have x2:decide ((x:Int)<(n2:Int))=false:=by simpa using x1
     clear e1 e8 e5 hp hn hQ;generalize hasT s x y=g at*;generalize y.1=k1 at*;generalize y.2=k2 at*
     go_enter Tryz.func90,Tryz.ntmps90
     go_wp2_with fail
     go_quiet (fail)
     go_wp2_with fail
     go_ret;exact⟨by rw[HT.out];rfl,(HB0.out _).trans ((qBj _ _).mono (by simp))⟩
 have t5:(y.1==5)=false:=by simpa using e5
 by_cases e6:y.1=6
 · have HT:=qBK (qEu (s:=s) (v:=x) (t:=y) e6)
   have HD:Hid (decide (x=0)=((x:Int)==0)):=by show _=_;rw[Bool.eq_iff_iff];simp
   have t6:(y.1==6)=true:=by simpa using e6
   clear e1 e8 e5 e6 hp hn hQ;generalize hasT s x y=g at*;generalize y.1=k1 at*;generalize y.2=k2 at*
   go_enter Tryz.func90,Tryz.ntmps90
   go_wp2_with fail
   go_ret;exact⟨by rw[HT.out,HD.out];rfl,HB0.out _⟩
 have t6:(y.1==6)=false:=by simpa using e6
 by_cases x0:x=0
 · subst x0
   have HT:=qBK (qEC (s:=s) (t:=y) e5);clear e1 e8 e5 e6 hp hn hQ;generalize hasT s 0 y=g at*;exact qk
 have tx:((x:Int)==0)=false:=by simp;omega
 by_cases hgt:n1<x
 · have HT:=qBK (qOC (s:=s) (v:=x) (t:=y) e1 e8 e5 x0 (by omega))
   have g1:(n1:Int)<(x:Int):=by omega
   clear e1 e8 e5 e6 x0 hp hn hQ;generalize hasT s x y=g at*;exact qk
 have g1:¬(n1:Int)<(x:Int):=by omega
 obtain⟨z,rfl⟩:∃z,x=z+1:=⟨x-1,by omega⟩;obtain⟨o,ho⟩:∃o,s.hp[z+1-1]? =some o:=⟨s.hp[z+1-1]'(by omega),List.getElem?_eq_getElem _⟩;have HT:=qBK (qIu (s:=s) (v:=z+1) (t:=y) e1 e8 e5 x0 e6 ho);rw[Nat.add_sub_cancel] at ho;obtain⟨a,cs,rfl,hab,hc,hR⟩:=hp.at ho;obtain⟨P0,d0,P1,d1,rfl,-,-,-,-,-,-,-,-,-⟩:=qC7 hR;have c0:∀o',(w.alloc o').cell? (a.add (z*4))=some (.int .i64 o.kind):=fun o'=>((HB0.out o').cell (p:=a.add (z*4)) qD).trans (hc 0 _ rfl);have c1:∀o',(w.alloc o').cell? ⟨(a.add (z*4)).block,(a.add (z*4)).off+1,none⟩=some (.int .i64 o.n):=fun o'=>by
  have:=((HB0.out o').cell (p:=a.add (z*4+1)) qD).trans (hc 1 _ rfl)
  rwa [qBT a (z*4) 1 (by omega)] at this
 have c2:∀o',(w.alloc o').cell? ⟨(a.add (z*4)).block,(a.add (z*4)).off+2,none⟩=some (.slice P0 o.words.length d0):=fun o'=>by
  have:=((HB0.out o').cell (p:=a.add (z*4+2)) qD).trans (hc 2 _ rfl)
  rwa [qBT a (z*4) 2 (by omega)] at this
 have c3:∀o',(w.alloc o').cell? ⟨(a.add (z*4)).block,(a.add (z*4)).off+3,none⟩=some (.slice P1 o.bytes.length d1):=fun o'=>by
  have:=((HB0.out o').cell (p:=a.add (z*4+3)) qD).trans (hc 3 _ rfl)
  rwa [qBT a (z*4) 3 (by omega)] at this
 have z0:(0:Int)≤(z:Int):=by omega
 have z1:(z:Int)<(n1:Int):=by omega
 have HBB:Hid (∀o1 o2:Obj,Below w.heap.size w ((w.alloc o1).alloc o2)):=fun o1 o2=>(HB0.out o1).alloc (by simp) _;have HD:Hid (∀b:Bool,(decide (y.1=7∨y.1=o.kind∧y.2=o.n)=b)↔((y.1==7) || ((y.1==o.kind) && (y.2==o.n)))=b):=by
  intro b;rw[show decide (y.1=7∨y.1=o.kind∧y.2=o.n)=((y.1==7) || ((y.1==o.kind) && (y.2==o.n))) by rw[Bool.eq_iff_iff];simp]
 clear e1 e8 e5 e6 x0 hp hn hQ hc hR ho hgt;generalize hasT s (z+1) y=g at*;generalize y.1=k1 at*;generalize y.2=k2 at*;generalize o.kind=k3 at*;generalize o.n=k4 at*;generalize o.words.length=k5 at*;generalize o.bytes.length=k6 at*
 by_cases e7:k1=7
 · subst e7
   go_enter Tryz.func90,Tryz.ntmps90
   go_wp2_with fail
   go_ret;exact⟨by rw[HT.out];simp,HBB.out _ _⟩
 · have t7:(k1==7)=false:=by simpa using e7
   clear e7
   go_enter Tryz.func90,Tryz.ntmps90
   go_wp2_with fail
   all_goals
    go_ret;refine⟨?_,HBB.out _ _⟩;rw[HT.out,(HD.out _).2 rfl,t7]
    first|(simp[*];done)|(simp[*];simpa using t7)
theorem qCz (v0 v1 v2 v3 v4 v5 v6:Value) (w:World):
 Calls Tryz.prog 51 #[.agg #[v0,v1,v2,v3,v4,v5,v6]] w fun e w'=>
  e= .returned (.func (.func 90) #[] #[.pointer (some ⟨w.heap.size,0,none⟩)])∧Below w.heap.size w w'∧w.heap.size<w'.heap.size∧C7 w.heap.size v0 v1 v2 v3 v4 v5 v6 w':=by
 go_enter Tryz.func51,Tryz.ntmps51
 go_wp2_with fail
 go_ret;exact⟨rfl,(qBO _ _).alloc (qBL _) _,by simp,by simp[C7,go_sem]⟩
theorem qGP (A B:Option Addr) (n m c d:Nat) (xs:List Nat) (ys:List Typ) (g:Nat→Typ→Bool) (p:Addr) (w:World) (hl:xs.length=n) (hm:ys.length=m) (h:Sq numL (·<w.heap.size) w A xs) (h':Sq typL (·<w.heap.size) w B ys) (hn2:n≤9223372036854775807) (hm2:m≤9223372036854775807)
 (hP:∀(w1:World) (x:Nat) (y:Typ),Below w.heap.size w w1→x<B64→I64 y.1→I64 y.2→Calls Tryz.prog 90 #[.int .u64 (x:Int),.agg #[.int .i64 y.1,.int .i64 y.2],.pointer (some p)] w1 (Tells (g x y) w1)):
 Calls Tryz.prog 94 #[.slice A n c,.slice B m d,.func (.func 90) #[] #[.pointer (some p)]] w (Tells (all2 g xs ys) w):=by
 refine qA9 ?_;intro HL HM HS HT;have HP0:=qBK hP;clear hl hm h h' hP
 by_cases hnm:n=m
 · subst hnm
   go_enter Tryz.func94,Tryz.ntmps94
   go_wp2_with fail
   go_loopw [17] (fun i wr=>∃k:Nat,k≤n∧i= .int .i64 (k:Nat)∧all2 g (xs.take k) (ys.take k)=true∧Below w.heap.size w wr) (fun i _=>n-(intOf i).toNat)
   case atStart=>exact⟨0,qBU _,rfl,by simp[all2],qBO _ _⟩
   case round=>
    obtain⟨k,hk,rfl,heq,hbel⟩:=hrel;have HE:=qBK heq;refine qAD ?_;intro HB hs;clear heq hbel
    by_cases hlt:k<n
    · skip
      refine jG ?_;intro x hx;refine qAV ?_;intro y hy;obtain⟨a,cs,rfl,hab,hc,hr⟩:=HS.out.at hx;obtain⟨b,cs2,rfl,hbb,hc2,hr2⟩:=HT.out.at hy;have HX:=qBK hx;have HY:=qBK hy;clear hx hy;obtain⟨rfl,hx64⟩:=hr;obtain⟨rfl,hy1,hy2⟩:=hr2;have c0:=(HB.out.cell (p:=a.add k) qD).trans (qB9 (K:=numL.k) rfl (hc 0 _ rfl));have k0:=(HB.out.cell (p:=b.add (k*2)) zS).trans (hc2 0 _ rfl);have k1:=(HB.out.cell (p:=b.add (k*2+1)) zS).trans (hc2 1 _ rfl);rw[qBT b (k*2) 1 (by omega)] at k1;have HP:Hid (∀w1,Below w.heap.size w w1→Calls Tryz.prog 90 #[.int .u64 (x:Int),.agg #[.int .i64 y.1,.int .i64 y.2],.pointer (some p)] w1 (Tells (g x y) w1)):=fun w1 hb=>HP0.out w1 x y hb hx64 hy1 hy2;clear hc hc2 hy1 hy2
      cases hg:g x y
      all_goals
       rw[hg] at HP;have HG:=qBK hg;clear hg
       go_wp2_with (first
        |(go_at_call 90
          refine(HP.out _ (HB.out.alloc hs _)).mono ?_;rintro e w2 ⟨rfl,hb2⟩;refine jo ?_;intro Hb2;clear hb2))
      · go_ret
        exact⟨by rw[all2_no HX.out HY.out HG.out];rfl,Hb2.out⟩
      · refine⟨⟨k+1,by omega,by simp,qMa HE.out HX.out HY.out HG.out,Hb2.out⟩,by simp[intOf];omega⟩
    · obtain rfl:k=n:=by omega
      go_wp2_with fail
      go_ret;exact⟨by rw[qMb HE.out HL.out HM.out];rfl,HB.out⟩
 · refine j9 ?_;intro h1 h2 HNM
   clear hnm
   go_enter Tryz.func94,Tryz.ntmps94
   go_wp2_with fail
   go_ret;refine⟨?_,qBO _ _⟩;rw[all2_ne (fun e=>HNM.out zz)]
   rfl
def HasAt (p:Addr) (s:Stt) (w:World):Prop:=∀(w1:World) (x:Nat) (y:Typ),Below w.heap.size w w1→x<B64→I64 y.1→I64 y.2→Calls Tryz.prog 90 #[.int .u64 (x:Int),.agg #[.int .i64 y.1,.int .i64 y.2],.pointer (some p)] w1 (Tells (hasT s x y) w1)
theorem HasAt.low (h:HasAt p s w) (hb:Below w.heap.size w v):HasAt p s v:=fun w1 x y h1 hx y1 y2=>h w1 x y (hb.trans (h1.mono hb.size)) hx y1 y2
theorem qHp (h:HasAt p s w) (A B:Option Addr) (n m c d:Nat) (xs:List Nat) (ys:List Typ) (hl:xs.length=n) (hm:ys.length=m) (hA:Sq numL (·<w.heap.size) w A xs) (hB:Sq typL (·<w.heap.size) w B ys) (hn2:n≤9223372036854775807) (hm2:m≤9223372036854775807):
 Calls Tryz.prog 94 #[.slice A n c,.slice B m d,.func (.func 90) #[] #[.pointer (some p)]] w (Tells (allB s xs ys) w):=
 qGP A B n m c d xs ys (hasT s) p w hl hm hA hB hn2 hm2 fun w1 x y hb hx y1 y2=>h w1 x y hb hx y1 y2
theorem qCG (v0 v1 v2 v3 v4:Value) (caps:Array Value) (w:World):
 Calls Tryz.prog 55 #[.agg #[v0,v1,v2,v3,v4],.func (.func 90) #[] caps] w fun e w'=>
  e= .returned (.func (.func 93) #[] #[.pointer (some ⟨w.heap.size,0,none⟩),.pointer (some ⟨w.heap.size+1,0,none⟩)])∧Below w.heap.size w w'∧w.heap.size+1<w'.heap.size∧C5 w.heap.size v0 v1 v2 v3 v4 w'∧w'.cell? ⟨w.heap.size+1,0,none⟩=some (.func (.func 90) #[] caps):=by
 go_enter Tryz.func55,Tryz.ntmps55
 go_wp2_with fail
 go_ret;exact⟨rfl,((qBO _ _).alloc (qBL _) _).alloc (by simp) _,by simp,by simp[C5,go_sem],by simp[go_sem]⟩
theorem qNO (h:o.kind=2):objB m s o=decide (o.n=0∧o.words.length=0∧o.bytes.length≤64):=by simp[objB,h]
theorem qJp (h:o.kind=3):objB m s o=decide (o.n=0∧o.words.length≤64∧o.bytes.length=0):=by simp[objB,h]
theorem qLk (h2:o.kind≠2) (h3:o.kind≠3) (h4:o.kind≠4):objB m s o=false:=by simp[objB,h2,h3,h4]
theorem qNQ (h:o.kind=4) (hn:¬(0≤o.n∧o.n<(m.recs.length:Int))):objB m s o=false:=by
 by_cases h0:o.n<0
 · simp[objB,h,h0]
 · have:m.recs[o.n.toNat]? =none:=List.getElem?_eq_none (by omega)
   simp[objB,h,h0,this]
theorem qNP {r:List Typ} (h:o.kind=4) (hn:o.n=(k:Int)) (hr:m.recs[k]? =some r):objB m s o=(decide (o.bytes.length=0) && allB s o.words r):=by
 have h0:¬(k:Int)<0:=by omega
 simp[objB,h,hn,hr,h0]
theorem qB2 (PM PH:Nat) (hp:Addr) (A0:Option Addr) (n0 d0:Nat) (v1 v2 v3 v4:Value) (m:Mod) (s:Stt) (o:Ob) (w:World) (cs:List Value) (hr:obL.R (·<w.heap.size) w cs o) (h0:m.recs.length=n0) (hn0:n0≤9223372036854775807) (hR:Sq tysL (·<w.heap.size) w A0 m.recs)
 (hM:C5 PM (.slice A0 n0 d0) v1 v2 v3 v4 w) (hH:w.cell? ⟨PH,0,none⟩=some (.func (.func 90) #[] #[.pointer (some hp)])) (hs:HasAt hp s w):
 Calls Tryz.prog 93 #[vAgg cs,.pointer (some ⟨PM,0,none⟩),.pointer (some ⟨PH,0,none⟩)] w (Tells (!objB m s o) w):=by
 obtain⟨P0,e0,P1,e1,rfl,l0,l0',l1,l1',sW,sB,-,i1,i2⟩:=qC7 hr;have hMb:=qBR w _ hM.1;have hHb:=qBR w _ hH;simp only at hMb hHb;unfold maxLen at l0' l1';obtain⟨a,ea⟩:∃a,o.words.length=a:=⟨_,rfl⟩;obtain⟨b,eb⟩:∃b,o.bytes.length=b:=⟨_,rfl⟩
 show Calls Tryz.prog 93 #[.agg #[.int .i64 o.kind,.int .i64 o.n,.slice P0 o.words.length e0,.slice P1 o.bytes.length e1],.pointer (some ⟨PM,0,none⟩),.pointer (some ⟨PH,0,none⟩)] w (Tells (!objB m s o) w)
 have HB0:Hid (∀ob:Obj,Below w.heap.size w (w.alloc ob)):=fun ob=>(qBO _ _).alloc (qBL _) _
 by_cases e2:o.kind=2
 · have HO:=qBK (qNO (m:=m) (s:=s) e2)
   rw[ea,eb] at HO⊢;have t2:(o.kind==2)=true:=by simpa using e2
   clear e2 hM hH hR hs hr sW sB h0 l0 l0' l1 l1' ea eb;generalize objB m s o=g at*;generalize o.kind=kk at*;generalize o.n=nn at*
   by_cases f0:nn=0
   rotate_left
   · exact zU
   subst f0
   by_cases f1:0<a
   · have t1:(0:Int)<(a:Int):=by omega
     exact qc
   obtain rfl:a=0:=by omega
   by_cases f2:64<b
   · have t1:(64:Int)<(b:Int):=by omega
     exact qc
   · have t1:¬(64:Int)<(b:Int):=by omega
     exact qc
 have t2:(o.kind==2)=false:=by simpa using e2
 by_cases e3:o.kind=3
 · have HO:=qBK (qJp (m:=m) (s:=s) e3)
   rw[ea,eb] at HO⊢;have t3:(o.kind==3)=true:=by simpa using e3
   clear e2 e3 hM hH hR hs hr sW sB h0 l0 l0' l1 l1' ea eb;generalize objB m s o=g at*;generalize o.kind=kk at*;generalize o.n=nn at*
   by_cases f0:nn=0
   rotate_left
   · exact zU
   subst f0
   by_cases f1:64<a
   · have t1:(64:Int)<(a:Int):=by omega
     exact qc
   have t1:¬(64:Int)<(a:Int):=by omega
   by_cases f2:0<b
   · have t1:(0:Int)<(b:Int):=by omega
     exact qc
   · obtain rfl:b=0:=by omega
     exact qc
 have t3:(o.kind==3)=false:=by simpa using e3
 by_cases e4:o.kind=4
 rotate_left
 · have HO:=qBK (qLk (m:=m) (s:=s) e2 e3 e4)
   have t4:(o.kind==4)=false:=by simpa using e4
   rw[ea,eb];clear e2 e3 e4 hM hH hR hs hr sW sB h0 l0 l0' l1 l1' ea eb;generalize objB m s o=g at*;generalize o.kind=kk at*;generalize o.n=nn at*
   go_enter Tryz.func93,Tryz.ntmps93
   go_wp2_with fail
   go_ret;exact⟨by rw[HO.out];rfl,HB0.out _⟩
 have t4:(o.kind==4)=true:=by simpa using e4
 unfold I64 at i2;have wr:IntKind.i64.wrap ((n0:Int)-1)=(n0:Int)-1:=by rw[qBi];omega
 have UT:Hid (∀(W:World) (r:Nat),Calls Tryz.prog 86 #[.int .i64 ((n0:Int)-1),.int .i64 o.n] (W.drewN r) fun e w''=>e= .returned (.bool (decide (0≤o.n∧o.n≤(n0:Int)-1)))∧∃m,w''=W.drewN m):=fun W r=>(qDX _ _ _).mono fun e w'' h=>⟨h.1,r,h.2⟩;have q0:∀ob:Obj,(w.alloc ob).cell? ⟨PM,0,none⟩=some (.slice A0 n0 d0):=fun ob=>((HB0.out ob).cell (p:=⟨PM,0,none⟩) hMb).trans hM.1
 by_cases hin:0≤o.n∧o.n<(n0:Int)
 rotate_left
 · have HO:=qBK (qNQ (m:=m) (s:=s) e4 (by rw[h0];exact hin))
   rw[decide_eq_false (by omega:¬(0≤o.n∧o.n≤(n0:Int)-1))] at UT;rw[ea,eb];clear e2 e3 e4 hM hH hR hs hr sW sB h0 l0 l0' l1 l1' ea eb hin;generalize objB m s o=g at*;generalize o.kind=kk at*;generalize o.n=nn at*
   go_enter Tryz.func93,Tryz.ntmps93
   go_wp2_with fail
   go_quiet (first|(go_at_call 86;exact UT.out _ _))
   go_wp2_with fail
   go_ret;exact⟨by rw[HO.out];rfl,(HB0.out _).trans ((qBj _ _).mono (by simp))⟩
 rw[decide_eq_true (by omega:(0≤o.n∧o.n≤(n0:Int)-1))] at UT;obtain⟨k,hk⟩:∃k:Nat,o.n=(k:Int):=⟨o.n.toNat,by omega⟩;obtain⟨r,hrr⟩:∃r,m.recs[k]? =some r:=⟨m.recs[k]'(by omega),List.getElem?_eq_getElem _⟩;have HO:=qBK (qNP (m:=m) (s:=s) e4 hk hrr);obtain⟨ar,csr,rfl,hab,hc,D,dl,rfl,r1,r2,sqr⟩:=hR.at hrr;have cr:=fun ob=>((HB0.out ob).cell (p:=ar.add k) qD).trans (qB9 (K:=tysL.k) rfl (hc 0 _ rfl));have qh:∀ob:Obj,(w.alloc ob).cell? ⟨PH,0,none⟩=some (.func (.func 90) #[] #[.pointer (some hp)]):=fun ob=>((HB0.out ob).cell (p:=⟨PH,0,none⟩) hHb).trans hH;have EF:Hid (∀w1,Below w.heap.size w w1→Calls Tryz.prog 94 #[.slice P0 a e0,.slice D r.length dl,.func (.func 90) #[] #[.pointer (some hp)]] w1 (Tells (allB s o.words r) w1)):=fun w1 hb=>
  qHp (hs.low hb) P0 D a r.length e0 dl o.words r ea rfl ((sW.keep fun b hb1=>hb.block b hb1).wide fun b hb1=>qBN hb1 hb.size) ((sqr.keep fun b hb1=>hb.block b hb1).wide fun b hb1=>qBN hb1 hb.size) (by omega) (by unfold maxLen at r2;omega)
 rw[hk] at UT⊢;rw[eb] at HO;rw[ea,eb];have k0:(0:Int)≤(k:Int):=by omega
 have k1:(k:Int)<(n0:Int):=by omega
 clear e2 e3 e4 hM hH hR hs hr sW sB h0 l0 l0' l1 l1' ea eb hin hk hrr hc r1 r2 sqr i2;generalize objB m s o=g at*;generalize o.kind=kk at*;generalize r.length=rl at*;generalize allB s o.words r=ab at*
 by_cases f2:0<b
 · have HO2:Hid (g=false):=by show _=_;rw[HO.out,decide_eq_false (by omega)];rfl
   have t5:decide ((0:Int)<(b:Int))=true:=by simp;omega
   have t6:decide (0<b)=true:=by simp;omega
   clear HO
   go_enter Tryz.func93,Tryz.ntmps93
   go_wp2_with fail
   go_quiet (first|(go_at_call 86;exact UT.out _ _))
   go_wp2_with fail
   go_ret;exact⟨by rw[HO2.out];rfl,(HB0.out _).trans ((qBj _ _).mono (by simp))⟩
 obtain rfl:b=0:=by omega
 have HO2:Hid (g=ab):=by show _=_;rw[HO.out];simp
 clear f2 HO
 cases ab
 all_goals
  go_enter Tryz.func93,Tryz.ntmps93
  go_upto_region 7 with(fail)
  refine qBV fun W hW=> ?_;have HBW:Hid (Below w.heap.size w W):=by show Below _ _ _;rw[hW];exact HB0.out _
  have z0:=cell_regrown (show W.cell? ⟨PM,0,none⟩=some (.slice (some ar) n0 d0) by rw[hW];exact q0 _);have z1:=cell_regrown (show W.cell? ⟨PH,0,none⟩=some (.func (.func 90) #[] #[.pointer (some hp)]) by rw[hW];exact qh _);have z2:=cell_regrown (show W.cell? (ar.add k)=some (.slice D rl dl) by rw[hW];exact cr _);have y1:=cell_regrown (show W.cell? ⟨w.heap.size,1,none⟩=some (.int .i64 (k:Int)) by rw[hW];simp[go_sem]);have y2:=cell_regrown (show W.cell? ⟨w.heap.size,2,none⟩=some (.slice P0 a e0) by rw[hW];simp[go_sem]);have y3:=cell_regrown (show W.cell? ⟨w.heap.size,3,none⟩=some (.slice P1 0 e1) by rw[hW];simp[go_sem]);have HR:Hid (∀dq osq,Below w.heap.size w (Go.Sort.grow (redrawn W dq) osq)):=fun dq osq=>HBW.out.trans ((below_regrown W dq osq).mono HBW.out.size);have UW:Hid (∀V,Calls Tryz.prog 86 #[.int .i64 ((n0:Int)-1),.int .i64 (k:Int)] V fun e w'=>e= .returned (.bool true)∧Below V.heap.size V w'):=fun V=>(UT.out V 0).mono fun e w' h=>⟨h.1,by obtain⟨m,hm⟩:=h.2;rw[hm];exact qBj _ _⟩;clear hW q0 qh cr;refine wp_region_quiet_below qR qR ?_
  repeat(quiet_step (first|with_reducible exact Calls.regrown_of (UW.out _)|with_reducible exact Calls.regrown_of (EF.out _ (HR.out _ _))))
  refine wpQuiet_nil ?_;intro _ hw';obtain⟨⟨dq,osq⟩,hw''⟩:=hw';subst hw'';have HX2:=qBK (HR.out dq osq)
  go_wp2_with fail
  go_ret;exact⟨by rw[HO2.out];rfl,HX2.out⟩
end Go.Proofs.YtgdbhanhmenmfaaGreat
