/-
Fi
-/
import Derived.Test.YtconajaecpgjgaaGreatQ02
set_option linter.unusedSimpArgs false
set_option linter.unusedVariables false
namespace Go.Proofs.YtconajaecpgjgaaGreat
open Go.RowKit
structure Env (b g t r:Nat) (w:World):Prop where
 recs:∃A c,w.cell? ⟨b,0,none⟩=some (.slice A r c)
 good:w.cell? ⟨g,0,none⟩=some (.func (.func 124) #[] #[.pointer (some ⟨b,0,none⟩)])
 types:w.cell? ⟨t,0,none⟩=some (.func (.func 126) #[] #[.pointer (some ⟨g,0,none⟩)])
theorem Env.below {b g t r:Nat} {w w':World} (h:Env b g t r w) (hb:Below w.heap.size w w'):Env b g t r w':=by
 obtain⟨A,c,h1⟩:=h.recs
 exact⟨⟨A,c,(hb.cell (qAl w _ h1)).trans h1⟩,(hb.cell (qAl w _ h.good)).trans h.good,(hb.cell (qAl w _ h.types)).trans h.types⟩
theorem qEI (b:Nat) (x:Typ) (r:Nat) (w:World) (h:∃A c,w.cell? ⟨b,0,none⟩=some (.slice A r c)) (cs:List Value) (hr:typL.R (·<w.heap.size) w cs x):
 Calls Tryz.prog 124 #[vAgg cs,.pointer (some ⟨b,0,none⟩)] w (Tells (goodT r x) w):=by
 obtain⟨A,c,h1⟩:=h
 obtain⟨rfl,i1,i2⟩:=hr
 show Calls Tryz.prog 124 #[.agg #[.int .i64 x.1,.int .i64 x.2],.pointer (some ⟨b,0,none⟩)] w (Tells (goodT r x) w)
 have hlt:=qAl w _ h1
 simp only at hlt
 have hne:b≠w.heap.size:=by omega
 have HC:Hid (∀w,Calls Tryz.prog 125 #[.agg #[.int .i64 x.1,.int .i64 x.2],.int .i64 (r:Int)] w (Tells (goodT r x) w)):=fun w=>kgood x.1 x.2 r w
 generalize goodT r x=gd at*
 go_enter Tryz.func124,Tryz.ntmps124
 go_wp2_with (first|(go_at_call 125;refine(HC.out _).mono ?_;rintro e w1 ⟨rfl,hb⟩))
 go_ret
 exact⟨rfl,((qAb _ _).alloc (qAZ _) _).trans (hb.mono (by simp))⟩
theorem qCu (b g:Nat) (A:Option Addr) (n c:Nat) (ts:List Typ) (most:Int) (r:Nat) (w:World) (hrec:∃A c,w.cell? ⟨b,0,none⟩=some (.slice A r c))
 (hg:w.cell? ⟨g,0,none⟩=some (.func (.func 124) #[] #[.pointer (some ⟨b,0,none⟩)])) (hl:ts.length=n) (h:Sq typL (·<w.heap.size) w A ts) (hn:n≤9223372036854775807) (hm: -9223372036854775807≤most∧most≤1000):
 Calls Tryz.prog 126 #[.slice A n c,.int .i64 most,.pointer (some ⟨g,0,none⟩)] w (Tells (witB 0 most (goodT r) ts) w):=by
 have HC:Hid (Calls Tryz.prog 127 #[.slice A n c,.int .i64 0,.int .i64 most,.func (.func 124) #[] #[.pointer (some ⟨b,0,none⟩)]] w (Tells (witB 0 most (goodT r) ts) w)):=
  qGX A n c ts 0 most (goodT r) ⟨b,0,none⟩ w hl h hn (by omega) ⟨by omega,hm.2⟩ fun w1 cs x hb _ hr=>by
   obtain⟨A',c',h1⟩:=hrec
   exact qEI b x r w1 ⟨A',c',(hb.cell (qAl w _ h1)).trans h1⟩ cs hr
 clear hrec hl h
 go_enter Tryz.func126,Tryz.ntmps126
 go_wp2_with (first|(go_at_call 127;refine HC.out.mono ?_;rintro e w1 ⟨rfl,hb⟩))
 go_ret
 exact⟨rfl,hb⟩
theorem qGp (b g t r:Nat) (x:List Typ) (w:World) (he:Env b g t r w) (cs:List Value) (hr:tysL.R (·<w.heap.size) w cs x):
 Calls Tryz.prog 128 #[vOne cs,.pointer (some ⟨t,0,none⟩)] w (Tells (recOk r x) w):=by
 obtain⟨A,c,rfl,l1,l2,l3⟩:=hr
 show Calls Tryz.prog 128 #[.slice A x.length c,.pointer (some ⟨t,0,none⟩)] w (Tells (recOk r x) w)
 have ht:=he.types
 obtain⟨n,hn⟩:∃n,x.length=n:=⟨_,rfl⟩
 have hn2:n≤9223372036854775807:=by unfold maxLen at l2;omega
 have HC:Hid (Calls Tryz.prog 126 #[.slice A n c,.int .i64 6,.pointer (some ⟨g,0,none⟩)] w (Tells (recOk r x) w)):=qCu b g A n c x 6 r w he.recs he.good hn l3 hn2 (by omega)
 rw[hn]
 clear hn l1 l2 l3 he
 generalize recOk r x=gd at*
 go_enter Tryz.func128,Tryz.ntmps128
 go_wp2_with (first|(go_at_call 126;refine HC.out.mono ?_;rintro e w1 ⟨rfl,hb⟩))
 go_ret
 exact⟨rfl,hb⟩
theorem qGH (x:Ins) (w:World) (cs:List Value) (hr:insL.R (·<w.heap.size) w cs x):Calls Tryz.prog 131 #[vAgg cs] w (Tells (goodIn x) w):=by
 obtain⟨rfl,-⟩:=hr
 show Calls Tryz.prog 131 #[.agg #[.int .i64 x.1,.int .i64 x.2.1,.int .i64 x.2.2]] w (Tells (goodIn x) w)
 have HC:Hid (∀w,Calls Tryz.prog 143 #[.agg #[.int .i64 x.1,.int .i64 x.2.1,.int .i64 x.2.2]] w (Puts (iB x) w)):=fun w=>qF8 x.1 x.2.1 x.2.2 w
 have hlen:=qFL x
 have hd:Hid (goodIn x=decide (0<(iB x).length)):=by
  show goodIn x=decide (0<(iB x).length)
  cases hg:goodIn x
  · have e:iB x=[]:=qC0 (by rw[show goodI x.1 x.2.1 x.2.2=false from hg];simp)
    rw[e]
    simp
  · have:=qJy (op:=x.1) (a:=x.2.1) (b:=x.2.2) hg
    exact(decide_eq_true this).symm
 obtain⟨y,hy⟩:∃y,iB x=y:=⟨_,rfl⟩
 rw[hy] at HC hd hlen
 generalize goodIn x=gd at*
 clear hy
 generalize x.1=q1 at*
 generalize x.2.1=q2 at*
 generalize x.2.2=q3 at*
 go_enter Tryz.func131,Tryz.ntmps131
 go_wp2_with (first|(go_at_call 143;refine(HC.out _).mono ?_;rintro e w1 ⟨u,rfl,hown,hb⟩;obtain⟨A2,c2,rfl,-,-,-,-⟩:=qA1 hown;clear hown;have HB:=qAU hb;clear hb))
 go_ret
 refine⟨?_,((qAb _ _).alloc (qAZ _) _).trans (HB.out.mono (by simp))⟩
 rw[hd.out]
 simp
theorem qEb (x:List Nat) (w:World) (cs:List Value) (hr:strL.R (·<w.heap.size) w cs x):Calls Tryz.prog 137 #[vOne cs] w (Tells (shortB x) w):=by
 obtain⟨s,rfl,rfl⟩:=hr
 show Calls Tryz.prog 137 #[.string s] w (Tells (shortB (strB s)) w)
 have hd:Hid (shortB (strB s)=decide (s.size≤32)):=by show shortB (strB s)=_;rw[shortB,qB1]
 generalize shortB (strB s)=gd at*
 go_enter Tryz.func137,Tryz.ntmps137
 go_wp2_with fail
 go_ret
 refine⟨?_,qAb _ _⟩
 rw[hd.out]
 simp
 omega
end Go.Proofs.YtconajaecpgjgaaGreat
