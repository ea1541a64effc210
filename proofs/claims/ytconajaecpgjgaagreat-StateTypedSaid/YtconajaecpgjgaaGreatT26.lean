/-
Rg1 Rg2
-/
import Derived.Test.YtconajaecpgjgaaGreatT01
import Derived.Test.YtconajaecpgjgaaGreatT07
import Derived.Test.YtconajaecpgjgaaGreatT09
import Derived.Test.YtconajaecpgjgaaGreatT13
import Derived.BigQuiet
import Derived.Lib.QuietBelow
import Derived.Deep.DeepCutAuto
set_option linter.unusedSimpArgs false
set_option linter.unusedVariables false
set_option maxRecDepth 100000
set_option maxHeartbeats 4000000
namespace Go.Proofs.YtconajaecpgjgaaGreat
open Go.RowKit
theorem zQ {P:Prop} (h:P:=by
 generalize y.1=k1 at*
 generalize y.2=k2 at*
 go_enter Tryz.func69,Tryz.ntmps69
 go_wp2_with fail
 go_ret
 exact⟨by rw[HT.out];rfl,HB0.out _ _⟩):P:=h
theorem qIl (A0 A1 A2:Option Addr) (n0 c0 n1 c1 n2 c2:Nat) (v3 v4 v5 v6:Value) (s:Stt) (x:Nat) (y:Typ) (w:World) (h1:s.hp.length=n1) (h2:s.hn.length=n2)
 (hp:Sq obL (·<w.heap.size) w A1 s.hp) (hn:Sq hdL (·<w.heap.size) w A2 s.hn) (b1:n1≤9223372036854775807) (b2:n2≤9223372036854775807) (hx:x<B64) (y1:I64 y.1) (y2:I64 y.2):
 Calls Tryz.prog 69 #[.agg #[.slice A0 n0 c0,.slice A1 n1 c1,.slice A2 n2 c2,v3,v4,v5,v6],.int .u64 (x:Int),.agg #[.int .i64 y.1,.int .i64 y.2]] w (Tells (hasT s x y) w):=by
 have HB0:Hid (∀o1 o2:Obj,Below w.heap.size w ((w.alloc o1).alloc o2)):=fun o1 o2=>((qAe _ _).alloc (qAf _) _).alloc (by simp) _
 unfold B64 at hx
 by_cases e1:y.1=1
 · have HT:=qAZ (qDI (s:=s) (v:=x) (t:=y) (.inl e1))
   have t1:(y.1==1)=true:=by simpa using e1
   clear e1 hp hn
   generalize hasT s x y=g at*
   exact zQ
 have t1:(y.1==1)=false:=by simpa using e1
 by_cases e8:y.1=8
 · have HT:=qAZ (qDI (s:=s) (v:=x) (t:=y) (.inr e8))
   have t8:(y.1==8)=true:=by simpa using e8
   clear e1 e8 hp hn
   generalize hasT s x y=g at*
   exact zQ
 have t8:(y.1==8)=false:=by simpa using e8
 by_cases e5:y.1=5
 · have t5:(y.1==5)=true:=by simpa using e5
   by_cases hlt:x<n2
   · obtain⟨h,hh⟩:∃h,s.hn[x]? =some h:=⟨s.hn[x]'(by rw[h2];exact hlt),qAa _⟩
     have HT:=qAZ (qFx (s:=s) (v:=x) (t:=y) e5 hh)
     obtain⟨a,cs,rfl,hab,hc,rfl,-⟩:=hn.at hh
     have c0:∀o1 o2,((w.alloc o1).alloc o2).cell? (a.add (x*3))=some (.int .i64 h.kind):=fun o1 o2=>((HB0.out o1 o2).cell (p:=a.add (x*3)) qE).trans (hc 0 _ rfl)
     have HD:Hid (decide (h.kind=y.2)=(h.kind==y.2)):=by show _=_;rw[Bool.eq_iff_iff];simp
     have x0:(0:Int)≤(x:Int):=by omega
     have x1:(x:Int)<(n2:Int):=by omega
     clear e1 e8 e5 hp hn hc hh
     generalize hasT s x y=g at*
     generalize y.1=k1 at*
     generalize y.2=k2 at*
     generalize h.kind=k3 at*
     go_enter Tryz.func69,Tryz.ntmps69
     go_wp2_with fail
     go_quiet (fail)
     go_wp2_with fail
     go_ret
     exact⟨by rw[HT.out,HD.out];rfl,(HB0.out _ _).trans ((qA7 _ _).mono qf)⟩
   · have HT:=qAZ (qDd (s:=s) (v:=x) (t:=y) e5 (by omega))
     have x1:¬(x:Int)<(n2:Int):=by omega
     have x2:decide ((x:Int)<(n2:Int))=false:=by simpa using x1
     clear e1 e8 e5 hp hn
     generalize hasT s x y=g at*
     generalize y.1=k1 at*
     generalize y.2=k2 at*
     go_enter Tryz.func69,Tryz.ntmps69
     go_wp2_with fail
     go_quiet (fail)
     go_wp2_with fail
     go_ret
     exact⟨by rw[HT.out];rfl,(HB0.out _ _).trans ((qA7 _ _).mono qf)⟩
 have t5:(y.1==5)=false:=by simpa using e5
 by_cases e6:y.1=6
 · have HT:=qAZ (qEf (s:=s) (v:=x) (t:=y) e6)
   have HD:Hid (decide (x=0)=((x:Int)==0)):=by show _=_;rw[Bool.eq_iff_iff];simp
   have t6:(y.1==6)=true:=by simpa using e6
   clear e1 e8 e5 e6 hp hn
   generalize hasT s x y=g at*
   generalize y.1=k1 at*
   generalize y.2=k2 at*
   by_cases x0:x=0
   · subst x0
     go_enter Tryz.func69,Tryz.ntmps69
     go_wp2_with fail
     go_ret
     exact⟨by rw[HT.out];rfl,HB0.out _ _⟩
   · have tx:((x:Int)==0)=false:=by simp;omega
     have HX0:=qAZ x0
     clear x0
     go_enter Tryz.func69,Tryz.ntmps69
     go_wp2_with fail
     go_ret
     exact⟨by rw[HT.out,decide_eq_false HX0.out];rfl,HB0.out _ _⟩
 have t6:(y.1==6)=false:=by simpa using e6
 by_cases x0:x=0
 · subst x0
   have HT:=qAZ (qEe (s:=s) (t:=y) e5)
   clear e1 e8 e5 e6 hp hn
   generalize hasT s 0 y=g at*
   exact zQ
 have tx:((x:Int)==0)=false:=by simp;omega
 by_cases hgt:n1<x
 · have HT:=qAZ (qFw (s:=s) (v:=x) (t:=y) e1 e8 e5 x0 (by omega))
   have g1:(n1:Int)<(x:Int):=by omega
   clear e1 e8 e5 e6 x0 hp hn
   generalize hasT s x y=g at*
   exact zQ
 have g1:¬(n1:Int)<(x:Int):=by omega
 obtain⟨z,rfl⟩:∃z,x=z+1:=⟨x-1,by omega⟩
 obtain⟨o,ho⟩:∃o,s.hp[z+1-1]? =some o:=⟨s.hp[z+1-1]'(by omega),qAa _⟩
 have HT:=qAZ (qFv (s:=s) (v:=z+1) (t:=y) e1 e8 e5 x0 e6 ho)
 rw[Nat.add_sub_cancel] at ho
 obtain⟨a,cs,rfl,hab,hc,hR⟩:=hp.at ho
 obtain⟨P0,d0,P1,d1,rfl,-,-,-,-,-,-,-,-,-⟩:=qCB hR
 have c0:∀o1 o2,((w.alloc o1).alloc o2).cell? (a.add (z*4))=some (.int .i64 o.kind):=fun o1 o2=>((HB0.out o1 o2).cell (p:=a.add (z*4)) qE).trans (hc 0 _ rfl)
 have c1:∀o1 o2,((w.alloc o1).alloc o2).cell? ⟨(a.add (z*4)).block,(a.add (z*4)).off+1,none⟩=some (.int .i64 o.n):=fun o1 o2=>by
  have:=((HB0.out o1 o2).cell (p:=a.add (z*4+1)) qE).trans (hc 1 _ rfl)
  rwa [qAl a (z*4) 1 (by omega)] at this
 have c2:∀o1 o2,((w.alloc o1).alloc o2).cell? ⟨(a.add (z*4)).block,(a.add (z*4)).off+2,none⟩=some (.slice P0 o.words.length d0):=fun o1 o2=>by
  have:=((HB0.out o1 o2).cell (p:=a.add (z*4+2)) qE).trans (hc 2 _ rfl)
  rwa [qAl a (z*4) 2 (by omega)] at this
 have c3:∀o1 o2,((w.alloc o1).alloc o2).cell? ⟨(a.add (z*4)).block,(a.add (z*4)).off+3,none⟩=some (.slice P1 o.bytes.length d1):=fun o1 o2=>by
  have:=((HB0.out o1 o2).cell (p:=a.add (z*4+3)) qE).trans (hc 3 _ rfl)
  rwa [qAl a (z*4) 3 (by omega)] at this
 have z0:(0:Int)≤(z:Int):=by omega
 have z1:(z:Int)<(n1:Int):=by omega
 have HBB:Hid (∀o1 o2 o3:Obj,Below w.heap.size w (((w.alloc o1).alloc o2).alloc o3)):=fun o1 o2 o3=>(HB0.out o1 o2).alloc qf _
 have HD:Hid (∀b:Bool,(decide (y.1=7∨y.1=o.kind∧y.2=o.n)=b)↔((y.1==7) || ((y.1==o.kind) && (y.2==o.n)))=b):=by
  intro b
  rw[show decide (y.1=7∨y.1=o.kind∧y.2=o.n)=((y.1==7) || ((y.1==o.kind) && (y.2==o.n))) by rw[Bool.eq_iff_iff];simp]
 clear e1 e8 e5 e6 x0 hp hn hc hR ho hgt
 generalize hasT s (z+1) y=g at*
 generalize y.1=k1 at*
 generalize y.2=k2 at*
 generalize o.kind=k3 at*
 generalize o.n=k4 at*
 generalize o.words.length=k5 at*
 generalize o.bytes.length=k6 at*
 by_cases e7:k1=7
 · subst e7
   go_enter Tryz.func69,Tryz.ntmps69
   go_wp2_with fail
   go_ret
   exact⟨by rw[HT.out];simp,HBB.out _ _ _⟩
 · have t7:(k1==7)=false:=by simpa using e7
   clear e7
   go_enter Tryz.func69,Tryz.ntmps69
   go_wp2_with fail
   all_goals
    go_ret
    refine⟨?_,HBB.out _ _ _⟩
    rw[HT.out,(HD.out _).2 rfl,t7]
    first|(simp[*];done)|(simp[*];simpa using t7)
theorem qD4 (A0 A1 A2:Option Addr) (n0 c0 n1 c1 n2 c2:Nat) (v3 v4 v5 v6:Value) (s:Stt) (P Q:Option Addr) (np cp nq cq:Nat) (xs:List Nat) (ts:List Typ) (w:World) (h1:s.hp.length=n1) (h2:s.hn.length=n2)
 (hp:Sq obL (·<w.heap.size) w A1 s.hp) (hn:Sq hdL (·<w.heap.size) w A2 s.hn) (b1:n1≤9223372036854775807) (b2:n2≤9223372036854775807)
 (hx:xs.length=np) (ht:ts.length=nq) (hX:Sq numL (·<w.heap.size) w P xs) (hT:Sq typL (·<w.heap.size) w Q ts) (bp:np≤9223372036854775807) (bq:nq≤9223372036854775807):
 Calls Tryz.prog 37 #[.agg #[.slice A0 n0 c0,.slice A1 n1 c1,.slice A2 n2 c2,v3,v4,v5,v6],.slice P np cp,.slice Q nq cq] w (Tells (allB s xs ts) w):=by
 by_cases hne:np≠nq
 · have HA:Hid (allB s xs ts=false):=qG9 (by rw[hx,ht];exact hne)
   have t1:((np:Int) != (nq:Int))=true:=by simp;omega
   generalize allB s xs ts=g at*
   clear hx ht hX hT hp hn hne
   go_enter Tryz.func37,Tryz.ntmps37
   go_wp2_with fail
   go_ret
   exact⟨by rw[HA.out];rfl,(qAe _ _).alloc (qAf _) _⟩
 obtain rfl:np=nq:=by omega
 have RH:Hid (∀v x y,Below w.heap.size w v→x<B64→I64 y.1→I64 y.2→Calls Tryz.prog 69 #[.agg #[.slice A0 n0 c0,.slice A1 n1 c1,.slice A2 n2 c2,v3,v4,v5,v6],.int .u64 (x:Nat),.agg #[.int .i64 y.1,.int .i64 y.2]] v fun e w'=>e= .returned (.bool (hasT s x y))∧Below v.heap.size v w'):=fun v x y hb hx y1 y2=>qIl A0 A1 A2 n0 c0 n1 c1 n2 c2 v3 v4 v5 v6 s x y v h1 h2 (qBD hp hb) (qBD hn hb) b1 b2 hx y1 y2
 have HX:=qAZ hX
 have HT:=qAZ hT
 have HL:=qAZ hx
 have HM:=qAZ ht
 have t1:((np:Int) != (np:Int))=false:=by simp
 clear hX hT hp hn hne hx ht
 go_enter Tryz.func37,Tryz.ntmps37
 go_upto_region 3 with(fail)
 refine qAp fun W hW=> ?_
 have hB0:Below w.heap.size w W:=by rw[hW];exact(qAe _ _).alloc (qAf _) _
 have HK:Hid (Blk W w.heap.size 36 #[.slice A0 n0 c0,.slice A1 n1 c1,.slice A2 n2 c2,v3,v4,v5,v6]):=by show Blk _ _ _ _;rw[hW];exact qAm rfl
 have HB0:=qAZ hB0
 have HBB:Hid (∀v,Below W.heap.size W v→Below w.heap.size w v):=fun v hb=>HB0.out.trans (hb.mono HB0.out.size)
 clear hW hB0
 go_wp2_with fail
 go_loopw [7] (fun i wr=>∃k:Nat,k≤np∧i= .int .i64 (k:Nat)∧Below W.heap.size W wr∧all2 (hasT s) (xs.take k) (ts.take k)=true) (fun i _=>np-(intOf i).toNat)
 case atStart=>exact⟨0,qAs _,rfl,qAe _ _,by simp[all2]⟩
 case round=>
  obtain⟨k,hk,rfl,hbr,hall⟩:=hrel
  have HBr:=qAZ hbr
  have HA:=qAZ hall
  have hsr:=hbr.size
  clear hall
  by_cases hlt:k<np
  · as_aux_lemma=>
    obtain⟨x,hx⟩:∃x,xs[k]? =some x:=⟨xs[k]'qd,qAa _⟩
    obtain⟨y,hy⟩:∃y,ts[k]? =some y:=⟨ts[k]'jX,qAa _⟩
    obtain⟨a,cs,rfl,hab,hc,hr⟩:=(qBD HX.out (HBB.out _ hbr)).at hx
    obtain⟨b,cs2,rfl,hbb,hc2,hr2⟩:=(qBD HT.out (HBB.out _ hbr)).at hy
    have HXk:=qAZ hx
    have HYk:=qAZ hy
    obtain⟨rfl,x1⟩:=hr
    obtain⟨rfl,y1,y2⟩:=hr2
    have RH1:=qAZ (fun v hb=>RH.out v x y hb x1 y1 y2)
    have q0:=qBC (K:=numL.k) rfl (hc 0 _ rfl)
    have q1:wr.cell? (b.add (k*2))=some (.int .i64 y.1):=hc2 0 _ rfl
    have q2:wr.cell? (b.add (k*2+1))=some (.int .i64 y.2):=hc2 1 _ rfl
    rw[qAl b (k*2) 1 (by omega)] at q2
    have hK:=qAc HK.out hbr HK.out.lt
    have r0:=cell_regrown (hK.cell 0)
    have r1:=cell_regrown (hK.cell 1)
    have r2:=cell_regrown (hK.cell 2)
    have r3:=cell_regrown (hK.cell 3)
    have r4:=cell_regrown (hK.cell 4)
    have r5:=cell_regrown (hK.cell 5)
    have r6:=cell_regrown (hK.cell 6)
    have r7:=cell_regrown q0
    have r8:=cell_regrown q1
    have r9:=cell_regrown q2
    have HBR:Hid (∀dq osq,Below W.heap.size W (Go.Sort.grow (redrawn wr dq) osq)):=fun dq osq=>hbr.trans ((below_regrown wr dq osq).mono hsr)
    have HG:Hid (hasT s x y=true→all2 (hasT s) (xs.take (k+1)) (ts.take (k+1))=true):=fun h=>qEp HA.out hx hy h
    have HG2:Hid (hasT s x y=false→allB s xs ts=false):=fun h=>qG8 hx hy h
    obtain⟨g,hg⟩:∃g,hasT s x y=g:=⟨_,rfl⟩
    rw[hg] at HG HG2 RH1
    obtain⟨y1',y2'⟩:=y
    simp only at r8 r9 RH1
    have k0:(0:Int)≤(k:Int):=by omega
    have k1:(k:Int)<(np:Int):=by omega
    clear hc hc2 hx hy q0 q1 q2 hK hg x1 y1 y2 hab hbb RH
    cases g
    · go_wp2_with fail
      refine wp_region_quiet_below qV qV ?_
      repeat(quiet_step (first|with_reducible exact Calls.regrown_of (RH1.out _ (HBB.out _ (HBR.out _ _)))))
      refine wpQuiet_nil ?_
      intro _ hw'
      obtain⟨⟨dq,osq⟩,hw''⟩:=hw'
      subst hw''
      have HX2:=qAZ (HBR.out dq osq)
      go_wp2_with fail
      go_ret
      exact⟨by rw[HG2.out (by trivial)];rfl,HBB.out _ HX2.out⟩
    · go_wp2_with fail
      refine wp_region_quiet_below qV qV ?_
      repeat(quiet_step (first|with_reducible exact Calls.regrown_of (RH1.out _ (HBB.out _ (HBR.out _ _)))))
      refine wpQuiet_nil ?_
      intro _ hw'
      obtain⟨⟨dq,osq⟩,hw''⟩:=hw'
      subst hw''
      have HX2:=qAZ (HBR.out dq osq)
      go_wp2_with fail
      exact⟨⟨k+1,by omega,by simp,HX2.out,HG.out (by trivial)⟩,by simp[intOf];omega⟩
  · obtain rfl:k=np:=by omega
    go_wp2_with fail
    go_ret
    exact⟨by rw[show allB s xs ts=true from qEq HA.out HL.out HM.out];rfl,HBB.out _ hbr⟩
end Go.Proofs.YtconajaecpgjgaaGreat
