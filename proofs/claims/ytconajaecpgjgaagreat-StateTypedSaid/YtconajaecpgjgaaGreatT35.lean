/-
Rfy Rbl Rnm Rvr Rgd Rkt Rtt Rar Rin
-/
import Derived.Test.YtconajaecpgjgaaGreatT01
import Derived.Test.YtconajaecpgjgaaGreatT02
import Derived.Test.YtconajaecpgjgaaGreatT03
import Derived.Test.YtconajaecpgjgaaGreatT09
import Derived.Test.YtconajaecpgjgaaGreatT31
import Derived.Test.YtconajaecpgjgaaGreatT32
import Derived.Test.YtconajaecpgjgaaGreatT33
import Derived.Test.YtconajaecpgjgaaGreatT34
import Derived.Lib.QuietBelow
import Derived.BigQuiet
set_option linter.unusedSimpArgs false
set_option linter.unusedVariables false
set_option maxRecDepth 100000
set_option maxHeartbeats 4000000
namespace Go.Proofs.YtconajaecpgjgaaGreat
open Go.RowKit
theorem qI {P:Prop} (h:P:=by
 clear h'
 go_enter Tryz.func85,Tryz.ntmps85
 go_wp2_with (first
  |(go_at_call 114
    refine(AR.out _).mono ?_
    rintro e w1 ⟨rfl,hb1⟩
    have HB1:Hid (Below w.heap.size w w1):=((qAe _ _).alloc (qAf _) _).trans (hb1.mono (by simp))
    have hk:=(hb1.block w.heap.size (by simp)).trans (qAz w 65 #[.int .i64 op,.int .i64 a,.int .i64 b])
    have HK:=qAZ hk
    have k0:=Blk.cell hk 0
    have k1:=Blk.cell hk 1
    have k2:=Blk.cell hk 2
    have hs1:w.heap.size<w1.heap.size:=(by have:=hb1.size;simp at this;omega)
    simp at k0 k1 k2
    clear hb1 hk))
 go_ret
 exact⟨rfl,HB1.out⟩):P:=h
theorem qX {P:Prop} (h:P:=by
 clear h0 h1 h2 h3 h4 g0 g1 g2 hR
 go_enter Tryz.func51,Tryz.ntmps51
 go_wp2_with fail
 go_ret
 exact⟨by rw[HN.out];rfl,HBel.out⟩):P:=h
theorem zC {P:Prop} (h:P:=by
 go_ret
 exact⟨rfl,qAe _ _⟩):P:=h
theorem zW {P:Prop} (h:P:=by
 go_ret
 refine⟨_,rfl,?_,HB0'.out.trans (HB3.out.mono HB0'.out.size)⟩
 rw[List.length_append]
 exact qBc HO3.out HB0'.out.size):P:=h
theorem jK {P:Prop} (h:P:=by
 go_enter Tryz.func83,Tryz.ntmps83
 exact qJ):P:=h
theorem jg {P:Prop} (h:P:=by
 clear h
 generalize hostB x=gd at*
 generalize x.1=q1 at*
 generalize x.2=q2 at*
 go_enter Tryz.func52,Tryz.ntmps52
 go_wp2_with fail
 go_ret
 exact⟨by rw[HD.out];rfl,HB0.out _⟩):P:=h
theorem jo {P:Prop} (h:P:=by
 have e:argN op= -1:=by unfold argN;rw[if_neg (by omega),if_neg (by omega),if_pos (by omega)]
 rw[e]
 clear e
 go_enter Tryz.func114,Tryz.ntmps114
 go_wp2
 exact zC):P:=h
theorem js {P:Prop} (h:P:=by
 have hge:(n0:Int)≤a:=by omega
 have hd:decide (a<(n0:Int))=false:=by simp;omega
 clear h0 h1 h2 h3 h4 g0 g1 g2 hR
 go_enter Tryz.func51,Tryz.ntmps51
 exact q7):P:=h
theorem qAB {P:Prop} (h:P:=by
 go_enter Tryz.func114,Tryz.ntmps114
 go_wp2
 exact zC):P:=h
theorem qAC {P:Prop} (h:P:=by
 generalize r.length=rl at*
 have hk0:0≤(k:Int):=by omega
 clear h0 h1 h2 h3 h4 g0 g1 g2 hR hr hc
 go_enter Tryz.func51,Tryz.ntmps51
 exact q7):P:=h
theorem qIn (RU:RuleAny) (cs:List Value) (x:Mod) (j p:Nat) (D:Option Addr) (k g:Nat) (ts:List Typ) (w:World) (h:modL.R (·<w.heap.size) w cs x) (fn:Fn) (o ia ib:Int) (hc:checkN x=0) (hfn:x.funcs[j]? =some fn) (hin:fn.code[p]? =some (o,ia,ib)) (hk:ts.length=k) (sk:Sq typL (·<w.heap.size) w D ts) (bk:k≤1000) (bg:k≤g) (bg2:g≤9223372036854775807) (hnil:D=none→g=0):Calls Tryz.prog 25 #[vAgg cs,.int .i64 (j:Int),.int .i64 (p:Int),.slice D k g] w (RFlows (insB8 x fn (o,ia,ib) p ts) w):=by
 cases hrb:ruleB x fn (o,ia,ib) ts with
 |none=>exact qGM RU cs x j p D k g ts w h fn o ia ib hc hfn hin hk sk bk bg bg2 hrb
 |some io=>
  obtain⟨ins,outs⟩:=io
  by_cases h1:k<ins.length
  · exact qHG RU cs x j p D k g ts w h fn o ia ib hc hfn hin hk sk bk bg bg2 ins outs hrb h1
  by_cases h2:8<k-ins.length+outs.length
  · exact qGN RU cs x j p D k g ts w h fn o ia ib hc hfn hin hk sk bk bg bg2 ins outs hrb (by omega) h2
  cases D with
  |none=>exact qHF RU cs x j p k g ts w h fn o ia ib hc hfn hin hk sk bk bg bg2 (hnil rfl) ins outs hrb (by omega) (by omega)
  |some aD=>exact qGO RU cs x j p aD k g ts w h fn o ia ib hc hfn hin hk sk bk bg bg2 ins outs hrb (by omega) (by omega)
theorem qGR (A B:Option Addr) (n m c d:Nat) (xs ys:List Typ) (w:World) (hl:xs.length=n) (hm:ys.length=m) (h:Sq typL (·<w.heap.size) w A xs) (h':Sq typL (·<w.heap.size) w B ys) (hn2:n≤9223372036854775807) (hm2:m≤9223372036854775807):
 Calls Tryz.prog 36 #[.slice A n c,.slice B m d] w (Tells (belowT xs ys) w):=by
 have HL:=qAZ hl
 have HM:=qAZ hm
 have HS:=qAZ h
 have HT:=qAZ h'
 clear hl hm h h'
 by_cases hnm:n=m
 · subst hnm
   go_enter Tryz.func36,Tryz.ntmps36
   go_wp2_with fail
   go_loopw [5] (fun i wr=>∃k:Nat,k≤n∧i= .int .i64 (k:Nat)∧belowT (xs.take k) (ys.take k)=true∧Below w.heap.size w wr) (fun i _=>n-(intOf i).toNat)
   case atStart=>exact⟨0,qAs _,rfl,by simp[belowT],qAe _ _⟩
   case round=>
    obtain⟨k,hk,rfl,heq,hbel⟩:=hrel
    have HE:=qAZ heq
    have HB:=qAZ hbel
    have hs:=hbel.size
    clear heq hbel
    by_cases hlt:k<n
    · skip
      obtain⟨x,hx⟩:∃x,xs[k]? =some x:=⟨xs[k]'qd,qAa _⟩
      obtain⟨y,hy⟩:∃y,ys[k]? =some y:=⟨ys[k]'jX,qAa _⟩
      obtain⟨a,cs,rfl,hab,hc,hr⟩:=HS.out.at hx
      obtain⟨b,cs2,rfl,hbb,hc2,hr2⟩:=HT.out.at hy
      have HX:=qAZ hx
      have HY:=qAZ hy
      clear hx hy
      obtain⟨rfl,-,-⟩:=hr
      obtain⟨rfl,-,-⟩:=hr2
      have z0:=(HB.out.cell (p:=a.add (k*2)) qE).trans (hc 0 _ rfl)
      have z1:=(HB.out.cell (p:=a.add (k*2+1)) qE).trans (hc 1 _ rfl)
      rw[qAl a (k*2) 1 (by omega)] at z1
      have y0:=(HB.out.cell (p:=b.add (k*2)) qm).trans (hc2 0 _ rfl)
      have y1:=(HB.out.cell (p:=b.add (k*2+1)) qm).trans (hc2 1 _ rfl)
      rw[qAl b (k*2) 1 (by omega)] at y1
      have z0r:=cell_regrown z0
      have z1r:=cell_regrown z1
      have y0r:=cell_regrown y0
      have y1r:=cell_regrown y1
      have HP:Hid (∀w1,Calls Tryz.prog 55 #[.agg #[.int .i64 x.1,.int .i64 x.2],.agg #[.int .i64 y.1,.int .i64 y.2]] w1 fun e w'=>e= .returned (.bool (subT x y))∧Below w1.heap.size w1 w'):=fun w1=>rsub x.1 x.2 y.1 y.2 w1
      have HBR:Hid (∀dq osq,Below w.heap.size w (Go.Sort.grow (redrawn wr dq) osq)):=fun dq osq=>HB.out.trans ((below_regrown wr dq osq).mono HB.out.size)
      have k0':0≤(k:Int):=by omega
      have k1':(k:Int)<(n:Int):=by omega
      clear hc hc2
      cases hg:subT x y
      all_goals
       rw[hg] at HP
       have HG:=qAZ hg
       clear hg
       go_wp2_with fail
       refine wp_region_quiet_below qV qV ?_
       repeat(quiet_step (first|with_reducible exact Calls.regrown_of (HP.out _)))
       refine wpQuiet_nil ?_
       intro _ hw'
       obtain⟨⟨dq,osq⟩,hw''⟩:=hw'
       subst hw''
       have HX2:=qAZ (HBR.out dq osq)
       go_wp2_with fail
      · go_ret
        exact⟨by rw[qDS HX.out HY.out HG.out];rfl,HX2.out⟩
      · refine⟨⟨k+1,by omega,by simp,qDC HE.out HX.out HY.out HG.out,HX2.out⟩,by simp[intOf];omega⟩
    · exact jt
 · have h1:((n:Int) != (m:Int))=true:=by simp;omega
   have h2:(n != m)=true:=by simpa using hnm
   have HNM:=qAZ hnm
   clear hnm
   go_enter Tryz.func36,Tryz.ntmps36
   go_wp2_with fail
   go_ret
   refine⟨?_,qAe _ _⟩
   rw[qC5 (fun e=>HNM.out jS)]
   rfl
theorem qHb (A0 A1 A2 A3 A4 P0 P1 P2:Option Addr) (n0 n1 n2 n3 n4 d0 d1 d2 d3 d4 u0 u1 u2 c0 c1 c2:Nat) (r1 r2:Int) (m:Mod) (f:Fn) (o a b:Int) (w:World) (h0:m.recs.length=n0) (h1:m.funcs.length=n1) (h2:m.imps.length=n2) (h3:m.ints.length=n3) (h4:m.texts.length=n4) (g0:f.args.length=u0) (g1:f.locs.length=u1) (g2:f.code.length=u2) (hn0:n0≤9223372036854775807) (hu0:u0≤1000) (hu1:u1≤1000) (ha:0≤a∧a≤255) (hb:0≤b∧b≤255) (hR:Sq tysL (·<w.heap.size) w A0 m.recs):
 Calls Tryz.prog 51 #[.agg #[.slice A0 n0 d0,.slice A1 n1 d1,.slice A2 n2 d2,.slice A3 n3 d3,.slice A4 n4 d4],.agg #[.slice P0 u0 c0,.int .i64 r1,.int .i64 r2,.slice P1 u1 c1,.slice P2 u2 c2],.agg #[.int .i64 o,.int .i64 a,.int .i64 b]] w (Tells (namedB m f (o,a,b)) w):=by
 have HBel:Hid (Below w.heap.size w (((w.alloc (.cells #[.slice A0 n0 d0,.slice A1 n1 d1,.slice A2 n2 d2,.slice A3 n3 d3,.slice A4 n4 d4] 28)).alloc (.cells #[.slice P0 u0 c0,.int .i64 r1,.int .i64 r2,.slice P1 u1 c1,.slice P2 u2 c2] 61)).alloc (.cells #[.int .i64 o,.int .i64 a,.int .i64 b] 65))):=(((qAe _ _).alloc (qAf _) _).alloc (by simp) _).alloc qf _
 by_cases e0:o=0
 · subst e0
   have HN:Hid (namedB m f (0,a,b)=decide (a<(n3:Int))):=by show namedB _ _ _=_;simp[namedB,h0,h1,h2,h3,h4,g0,g1,g2]
   generalize namedB m f (0,a,b)=nb at*
   exact qX
 by_cases e1:o=1
 · subst e1
   have HN:Hid (namedB m f (1,a,b)=decide (a<(n4:Int))):=by show namedB _ _ _=_;simp[namedB,h0,h1,h2,h3,h4,g0,g1,g2]
   generalize namedB m f (1,a,b)=nb at*
   exact qX
 by_cases e3:o=3
 · subst e3
   have HN:Hid (namedB m f (3,a,b)=decide (a<(u0:Int)+(u1:Int))):=by show namedB _ _ _=_;simp[namedB,h0,h1,h2,h3,h4,g0,g1,g2]
   generalize namedB m f (3,a,b)=nb at*
   exact qX
 by_cases e4:o=4
 · subst e4
   have HN:Hid (namedB m f (4,a,b)=decide (a<(u0:Int)+(u1:Int))):=by show namedB _ _ _=_;simp[namedB,h0,h1,h2,h3,h4,g0,g1,g2]
   generalize namedB m f (4,a,b)=nb at*
   exact qX
 by_cases e23:o=23
 · subst e23
   have HN:Hid (namedB m f (23,a,b)=decide (a<(u2:Int))):=by show namedB _ _ _=_;simp[namedB,h0,h1,h2,h3,h4,g0,g1,g2]
   generalize namedB m f (23,a,b)=nb at*
   exact qX
 by_cases e24:o=24
 · subst e24
   have HN:Hid (namedB m f (24,a,b)=decide (a<(u2:Int))):=by show namedB _ _ _=_;simp[namedB,h0,h1,h2,h3,h4,g0,g1,g2]
   generalize namedB m f (24,a,b)=nb at*
   exact qX
 by_cases e25:o=25
 · subst e25
   have HN:Hid (namedB m f (25,a,b)=decide (a<(n1:Int))):=by show namedB _ _ _=_;simp[namedB,h0,h1,h2,h3,h4,g0,g1,g2]
   generalize namedB m f (25,a,b)=nb at*
   exact qX
 by_cases e27:o=27
 · subst e27
   have HN:Hid (namedB m f (27,a,b)=decide (a<(n2:Int))):=by show namedB _ _ _=_;simp[namedB,h0,h1,h2,h3,h4,g0,g1,g2]
   generalize namedB m f (27,a,b)=nb at*
   exact qX
 by_cases e28:o=28
 · subst e28
   have HN:Hid (namedB m f (28,a,b)=decide (a<(n0:Int))):=by show namedB _ _ _=_;simp[namedB,h0,h1,h2,h3,h4,g0,g1,g2]
   generalize namedB m f (28,a,b)=nb at*
   exact qX
 by_cases e29:o=29
 · subst e29
   by_cases hlt:a<(n0:Int)
   · obtain⟨k,rfl⟩:∃k:Nat,a=(k:Int):=⟨a.toNat,by omega⟩
     have hk:k<n0:=by omega
     obtain⟨r,hr⟩:∃r,m.recs[k]? =some r:=⟨m.recs[k]'(by rw[h0];exact hk),qAa _⟩
     have HN:Hid (namedB m f (29,(k:Int),b)=decide (b<(r.length:Int))):=by show namedB _ _ _=_;simp[namedB,hr]
     obtain⟨a0,cs,ea,hab,hc,hRr⟩:=hR.at hr
     subst ea
     obtain⟨Q0,q0,rfl,-,-,-⟩:=hRr
     have cr:=qBC (K:=tysL.k) rfl (hc 0 _ rfl)
     have cr2:∀o1 o2 o3:Obj,(((w.alloc o1).alloc o2).alloc o3).cell? (a0.add k)=_:=fun o1 o2 o3=>(((((qAe _ w).alloc (qAf _) o1).alloc (by simp) o2).alloc qf o3).cell (p:=a0.add k) qE).trans cr
     generalize namedB m f (29,(k:Int),b)=nb at*
     exact qAC
   · have HN:Hid (namedB m f (29,a,b)=false):=by
      show namedB _ _ _=_
      have hz:m.recs[a.toNat]? =none:=List.getElem?_eq_none (by rw[h0];omega)
      simp[namedB,hz]
     generalize namedB m f (29,a,b)=nb at*
     exact js
 by_cases e30:o=30
 · subst e30
   by_cases hlt:a<(n0:Int)
   · obtain⟨k,rfl⟩:∃k:Nat,a=(k:Int):=⟨a.toNat,by omega⟩
     have hk:k<n0:=by omega
     obtain⟨r,hr⟩:∃r,m.recs[k]? =some r:=⟨m.recs[k]'(by rw[h0];exact hk),qAa _⟩
     have HN:Hid (namedB m f (30,(k:Int),b)=decide (b<(r.length:Int))):=by show namedB _ _ _=_;simp[namedB,hr]
     obtain⟨a0,cs,ea,hab,hc,hRr⟩:=hR.at hr
     subst ea
     obtain⟨Q0,q0,rfl,-,-,-⟩:=hRr
     have cr:=qBC (K:=tysL.k) rfl (hc 0 _ rfl)
     have cr2:∀o1 o2 o3:Obj,(((w.alloc o1).alloc o2).alloc o3).cell? (a0.add k)=_:=fun o1 o2 o3=>(((((qAe _ w).alloc (qAf _) o1).alloc (by simp) o2).alloc qf o3).cell (p:=a0.add k) qE).trans cr
     generalize namedB m f (30,(k:Int),b)=nb at*
     exact qAC
   · have HN:Hid (namedB m f (30,a,b)=false):=by
      show namedB _ _ _=_
      have hz:m.recs[a.toNat]? =none:=List.getElem?_eq_none (by rw[h0];omega)
      simp[namedB,hz]
     generalize namedB m f (30,a,b)=nb at*
     exact js
 have HN:Hid (namedB m f (o,a,b)=true):=by show namedB _ _ _=_;simp[namedB,e0,e1,e3,e4,e23,e24,e25,e27,e28,e29,e30]
 have b0:(o==0)=false:=by simpa using e0
 have b1:(o==1)=false:=by simpa using e1
 have b3:(o==3)=false:=by simpa using e3
 have b4:(o==4)=false:=by simpa using e4
 have b23:(o==23)=false:=by simpa using e23
 have b24:(o==24)=false:=by simpa using e24
 have b25:(o==25)=false:=by simpa using e25
 have b27:(o==27)=false:=by simpa using e27
 have b28:(o==28)=false:=by simpa using e28
 have b29:(o==29)=false:=by simpa using e29
 have b30:(o==30)=false:=by simpa using e30
 generalize namedB m f (o,a,b)=nb at*
 clear h0 h1 h2 h3 h4 g0 g1 g2 hR e0 e1 e3 e4 e23 e24 e25 e27 e28 e29 e30
 go_enter Tryz.func51,Tryz.ntmps51
 go_wp2_with fail
 go_ret
 exact⟨by rw[HN.out];rfl,HBel.out⟩
theorem qFt (x:Typ) (w:World):Calls Tryz.prog 52 #[.agg #[.int .i64 x.1,.int .i64 x.2]] w (Tells (hostB x) w):=by
 have HB0:Hid (∀o:Obj,Below w.heap.size w (w.alloc o)):=fun o=>(qAe _ _).alloc (qAf _) _
 by_cases h:x.1=1
 · have HD:Hid (hostB x=true):=by show hostB x=_;simp[hostB,h]
   have b:(x.1==1)=true:=by simpa using h
   exact jg
 · have HD:Hid (hostB x=(x.1==5)):=by show hostB x=_;rw[Bool.eq_iff_iff];simp[hostB,h]
   have b:(x.1==1)=false:=by simpa using h
   exact jg
theorem qBE (v:Nat):∀(w:World),v<B64→
 Calls Tryz.prog 81 #[.int .u64 (v:Nat)] w fun e w'=>∃u,e= .returned u∧w'.ownsRow w.heap.size 5 1 u (vb v).length (Bs (vb v))∧Below w.heap.size w w':=by
 induction v using Nat.strongRecOn with
 |_ v ih=>
  intro w hv
  by_cases hlt:v<128
  · have h1:decide ((v:Int)<128)=true:=by simp;omega
    clear ih
    go_enter Tryz.func81,Tryz.ntmps81
    go_wp2
    go_ret
    refine⟨_,rfl,?_,(qAe _ w).alloc (qAf _) _⟩
    rw[qCf v hlt]
    exact qDH w _ v rfl
  · have h1:decide ((v:Int)<128)=false:=by simp;omega
    have IH:=qAZ (fun w'=>ih (v / 128) (by omega) w' (by omega))
    have HV:=qAZ hv
    clear ih hv
    go_enter Tryz.func81,Tryz.ntmps81
    go_wp2_with fail
    have e1:IntKind.u64.wrap ((v:Int) / 128)=((v / 128:Nat):Int):=by have:=HV.out;unfold B64 at this;rw[IntKind.wrap_u64];omega
    rw[e1]
    clear e1
    refine(IH.out _).mono ?_
    rintro e w2 ⟨u,rfl,hown,hbel⟩
    obtain⟨A,c,rfl,hl,hlc,hcm,hB⟩:=qA5 hown
    have hlen:(vb (v / 128)).length≤10:=qBU 9 _ (by have:=HV.out;unfold B64 at this;omega)
    have HB:=qAZ hB
    have hsz:=hbel.size
    have HO:=qAZ (qA4 (qDH w (128+(v:Int) % 128) (v % 128+128) (by omega)) hbel (qAf _))
    simp at hsz
    clear hown hl hB
    go_wp2_with (at_builtin
                 refine qA3 _ rfl (.tmp 12) (.tmp 15) rfl w.heap.size (.slice (some ⟨w.heap.size,0,none⟩) 1 1) 1 [v % 128+128] rfl HO.out A _ c (vb (v / 128)) rfl rfl _ HB.out (by omega) (by omega) ?_
                 intro v1 w1 hown1 hg1 _)
    go_ret
    refine⟨v1,rfl,?_,?_⟩
    · rw[qEu v hlt]
      have e:(vb (v / 128)).length+1=1+(vb (v / 128)).length:=by omega
      rw[List.length_cons,e]
      exact hown1
    · refine(((qAe _ w).alloc (qAf _) _).trans (hbel.mono (by simp))).grown hg1 (by omega) (fun k hk=> ?_)
      simp[Value.ownBlock] at hk
      omega
theorem qIm (k n r:Int) (w:World):Calls Tryz.prog 83 #[.agg #[.int .i64 k,.int .i64 n],.int .i64 r] w fun e w'=>e= .returned (.bool (goodB k n r))∧Below w.heap.size w w':=by
 by_cases h1:k=1
 · subst h1
   exact jK
 by_cases h2:k=2
 · subst h2
   exact jK
 by_cases h3:k=3
 · subst h3
   exact jK
 by_cases h7:k=7
 · subst h7
   exact jK
 by_cases h4:k=4
 · subst h4
   by_cases hn:0≤n
   · have e:goodB 4 n r=decide (n<r):=by simp[goodB,hn]
     rw[e]
     clear e
     exact jK
   · have e:goodB 4 n r=false:=by simp[goodB,hn]
     rw[e]
     clear e
     exact jK
 by_cases h5:k=5
 · subst h5
   by_cases hn:0≤n
   · have e:goodB 5 n r=decide (n<4):=by simp[goodB,hn]
     rw[e]
     clear e
     exact jK
   · have e:goodB 5 n r=false:=by simp[goodB,hn]
     rw[e]
     clear e
     exact jK
 have e:goodB k n r=false:=by simp[goodB,h1,h2,h3,h7,h4,h5]
 rw[e]
 clear e
 go_enter Tryz.func83,Tryz.ntmps83
 go_wp2_with fail
 go_ret
 exact⟨rfl,(qAe _ _).alloc (qAf _) _⟩
theorem qIf (k n:Int) (w:World) (hk: -9223372036854775808≤k∧k≤9223372036854775807) (hn: -9223372036854775808≤n∧n≤9223372036854775807):
 Calls Tryz.prog 84 #[.agg #[.int .i64 k,.int .i64 n]] w fun e w'=>∃u,e= .returned u∧w'.ownsRow w.heap.size 5 1 u (typB k n).length (Bs (typB k n))∧Below w.heap.size w w':=by
 have hl:(vb k.toNat).length+(vb n.toNat).length≤140737488355328:=by
  have:=qDF k n hk.2 hn.2
  simp[typB] at this
  omega
 have hk64:k.toNat<B64:=by unfold B64;omega
 have hn64:n.toNat<B64:=by unfold B64;omega
 unfold typB
 by_cases h1:k<0
 · rw[show k.toNat=0 by omega] at hl hk64⊢
   by_cases h2:n<0
   · rw[show n.toNat=0 by omega] at hl hn64⊢
     go_enter Tryz.func84,Tryz.ntmps84
     go_wp2_with fail
     refine qAp fun W hW=> ?_
     have c0:W.cell? ⟨w.heap.size,0,none⟩=some (.int .i64 k):=by rw[hW];simp[go_sem]
     have c1:W.cell? ⟨w.heap.size,1,none⟩=some (.int .i64 n):=by rw[hW];simp[go_sem]
     have HB0:Hid (Below w.heap.size w W):=by
      show Below w.heap.size w W
      rw[hW]
      exact(qAe _ _).alloc (qAf _) _
     clear hW
     go_quiet (fail)
     generalize hW1:World.drewN W _=W1
     have HB0':Hid (Below w.heap.size w W1):=by
      show Below w.heap.size w W1
      rw[←hW1]
      exact⟨HB0.out.os,HB0.out.tape,HB0.out.output,HB0.out.size,HB0.out.block⟩
     clear hW1 c0 c1 HB0
     go_wp2_with (first
      |(at_builtin
        refine qA3 _ rfl (.tmp 15) (.tmp 18) rfl W1.heap.size u1 (vb 0).length (vb 0) rfl HO1.out A2 (vb 0).length c2 (vb 0) rfl rfl _ HY2.out hl HS2.out ?_
        intro v3 w3 hown3 hg3 _
        have HO3:=qAZ hown3
        have HB3:=qAZ (HB2.out.grown hg3 HS2.out (fun i hi=>(HO1.out.lt i hi).1))
        clear hown3 hg3)
      |(go_at_call 81
        have hp:=HP1.out
        clear hp
        refine(qBE 0 _ zB).mono ?_
        rintro e w2 ⟨u2,rfl,hown2,hb2⟩
        obtain⟨A2,c2,rfl,-,-,-,hY2⟩:=qA5 hown2
        have HY2:=qAZ hY2
        have HB2:=qAZ (HB1.out.trans (hb2.mono HB1.out.size))
        have HO1:=qAZ (qA4 HP1.out hb2 (qAf _))
        have HS2:=qAZ HB2.out.size
        clear hown2 hY2 hb2)
      |(go_at_call 81
        refine(qBE 0 _ zB).mono ?_
        rintro e w1 ⟨u1,rfl,hown1,hb1⟩
        have HP1:=qAZ hown1
        have HB1:=qAZ (hb1.mono (qAf W1.heap.size))
        clear hown1 hb1))
     exact zW
   · obtain⟨b,rfl⟩:∃b:Nat,n=(b:Int):=⟨n.toNat,by omega⟩
     rw[Int.toNat_natCast] at hl hn64⊢
     go_enter Tryz.func84,Tryz.ntmps84
     go_wp2_with fail
     refine qAp fun W hW=> ?_
     have c0:W.cell? ⟨w.heap.size,0,none⟩=some (.int .i64 k):=by rw[hW];simp[go_sem]
     have c1:W.cell? ⟨w.heap.size,1,none⟩=some (.int .i64 (b:Int)):=by rw[hW];simp[go_sem]
     have HB0:Hid (Below w.heap.size w W):=by
      show Below w.heap.size w W
      rw[hW]
      exact(qAe _ _).alloc (qAf _) _
     clear hW
     go_quiet (fail)
     generalize hW1:World.drewN W _=W1
     have HB0':Hid (Below w.heap.size w W1):=by
      show Below w.heap.size w W1
      rw[←hW1]
      exact⟨HB0.out.os,HB0.out.tape,HB0.out.output,HB0.out.size,HB0.out.block⟩
     clear hW1 c0 c1 HB0
     go_wp2_with (first
      |(at_builtin
        refine qA3 _ rfl (.tmp 15) (.tmp 18) rfl W1.heap.size u1 (vb 0).length (vb 0) rfl HO1.out A2 (vb b).length c2 (vb b) rfl rfl _ HY2.out hl HS2.out ?_
        intro v3 w3 hown3 hg3 _
        have HO3:=qAZ hown3
        have HB3:=qAZ (HB2.out.grown hg3 HS2.out (fun i hi=>(HO1.out.lt i hi).1))
        clear hown3 hg3)
      |(go_at_call 81
        have hp:=HP1.out
        clear hp
        refine(qBE b _ hn64).mono ?_
        rintro e w2 ⟨u2,rfl,hown2,hb2⟩
        obtain⟨A2,c2,rfl,-,-,-,hY2⟩:=qA5 hown2
        have HY2:=qAZ hY2
        have HB2:=qAZ (HB1.out.trans (hb2.mono HB1.out.size))
        have HO1:=qAZ (qA4 HP1.out hb2 (qAf _))
        have HS2:=qAZ HB2.out.size
        clear hown2 hY2 hb2)
      |(go_at_call 81
        refine(qBE 0 _ zB).mono ?_
        rintro e w1 ⟨u1,rfl,hown1,hb1⟩
        have HP1:=qAZ hown1
        have HB1:=qAZ (hb1.mono (qAf W1.heap.size))
        clear hown1 hb1))
     exact zW
 · obtain⟨a,rfl⟩:∃a:Nat,k=(a:Int):=⟨k.toNat,by omega⟩
   rw[Int.toNat_natCast] at hl hk64⊢
   by_cases h2:n<0
   · rw[show n.toNat=0 by omega] at hl hn64⊢
     go_enter Tryz.func84,Tryz.ntmps84
     go_wp2_with fail
     refine qAp fun W hW=> ?_
     have c0:W.cell? ⟨w.heap.size,0,none⟩=some (.int .i64 (a:Int)):=by rw[hW];simp[go_sem]
     have c1:W.cell? ⟨w.heap.size,1,none⟩=some (.int .i64 n):=by rw[hW];simp[go_sem]
     have HB0:Hid (Below w.heap.size w W):=by
      show Below w.heap.size w W
      rw[hW]
      exact(qAe _ _).alloc (qAf _) _
     clear hW
     go_quiet (fail)
     generalize hW1:World.drewN W _=W1
     have HB0':Hid (Below w.heap.size w W1):=by
      show Below w.heap.size w W1
      rw[←hW1]
      exact⟨HB0.out.os,HB0.out.tape,HB0.out.output,HB0.out.size,HB0.out.block⟩
     clear hW1 c0 c1 HB0
     go_wp2_with (first
      |(at_builtin
        refine qA3 _ rfl (.tmp 15) (.tmp 18) rfl W1.heap.size u1 (vb a).length (vb a) rfl HO1.out A2 (vb 0).length c2 (vb 0) rfl rfl _ HY2.out hl HS2.out ?_
        intro v3 w3 hown3 hg3 _
        have HO3:=qAZ hown3
        have HB3:=qAZ (HB2.out.grown hg3 HS2.out (fun i hi=>(HO1.out.lt i hi).1))
        clear hown3 hg3)
      |(go_at_call 81
        have hp:=HP1.out
        clear hp
        refine(qBE 0 _ zB).mono ?_
        rintro e w2 ⟨u2,rfl,hown2,hb2⟩
        obtain⟨A2,c2,rfl,-,-,-,hY2⟩:=qA5 hown2
        have HY2:=qAZ hY2
        have HB2:=qAZ (HB1.out.trans (hb2.mono HB1.out.size))
        have HO1:=qAZ (qA4 HP1.out hb2 (qAf _))
        have HS2:=qAZ HB2.out.size
        clear hown2 hY2 hb2)
      |(go_at_call 81
        refine(qBE a _ hk64).mono ?_
        rintro e w1 ⟨u1,rfl,hown1,hb1⟩
        have HP1:=qAZ hown1
        have HB1:=qAZ (hb1.mono (qAf W1.heap.size))
        clear hown1 hb1))
     exact zW
   · obtain⟨b,rfl⟩:∃b:Nat,n=(b:Int):=⟨n.toNat,by omega⟩
     rw[Int.toNat_natCast] at hl hn64⊢
     go_enter Tryz.func84,Tryz.ntmps84
     go_wp2_with fail
     refine qAp fun W hW=> ?_
     have c0:W.cell? ⟨w.heap.size,0,none⟩=some (.int .i64 (a:Int)):=by rw[hW];simp[go_sem]
     have c1:W.cell? ⟨w.heap.size,1,none⟩=some (.int .i64 (b:Int)):=by rw[hW];simp[go_sem]
     have HB0:Hid (Below w.heap.size w W):=by
      show Below w.heap.size w W
      rw[hW]
      exact(qAe _ _).alloc (qAf _) _
     clear hW
     go_quiet (fail)
     generalize hW1:World.drewN W _=W1
     have HB0':Hid (Below w.heap.size w W1):=by
      show Below w.heap.size w W1
      rw[←hW1]
      exact⟨HB0.out.os,HB0.out.tape,HB0.out.output,HB0.out.size,HB0.out.block⟩
     clear hW1 c0 c1 HB0
     go_wp2_with (first
      |(at_builtin
        refine qA3 _ rfl (.tmp 15) (.tmp 18) rfl W1.heap.size u1 (vb a).length (vb a) rfl HO1.out A2 (vb b).length c2 (vb b) rfl rfl _ HY2.out hl HS2.out ?_
        intro v3 w3 hown3 hg3 _
        have HO3:=qAZ hown3
        have HB3:=qAZ (HB2.out.grown hg3 HS2.out (fun i hi=>(HO1.out.lt i hi).1))
        clear hown3 hg3)
      |(go_at_call 81
        have hp:=HP1.out
        clear hp
        refine(qBE b _ hn64).mono ?_
        rintro e w2 ⟨u2,rfl,hown2,hb2⟩
        obtain⟨A2,c2,rfl,-,-,-,hY2⟩:=qA5 hown2
        have HY2:=qAZ hY2
        have HB2:=qAZ (HB1.out.trans (hb2.mono HB1.out.size))
        have HO1:=qAZ (qA4 HP1.out hb2 (qAf _))
        have HS2:=qAZ HB2.out.size
        clear hown2 hY2 hb2)
      |(go_at_call 81
        refine(qBE a _ hk64).mono ?_
        rintro e w1 ⟨u1,rfl,hown1,hb1⟩
        have HP1:=qAZ hown1
        have HB1:=qAZ (hb1.mono (qAf W1.heap.size))
        clear hown1 hb1))
     exact zW
def Typs (ts:List Typ) (r mo:Int) (w:World) (e:Ending) (w':World):Prop:=
 Below w.heap.size w w'∧((ts.all (goodT r)=true∧∃u,e= .returned (.tuple #[u,.bool (decide ((ts.length:Int)≤mo))])∧w'.ownsRow w.heap.size 5 1 u (lB tB ts).length (Bs (lB tB ts)))∨
  (ts.all (goodT r)=false∧e= .returned (.tuple #[.slice none 0 0,.bool false])))
theorem qGI (A:Option Addr) (n c:Nat) (xs:List Typ) (r mo:Int) (w:World) (hl:xs.length=n) (h:Sq typL (·<w.heap.size) w A xs) (hn2:n≤3000) (hr:r≤8):
 Calls Tryz.prog 82 #[.slice A n c,.int .i64 r,.int .i64 mo] w (Typs xs r mo w):=by
 have HL:=qAZ hl
 have HS:=qAZ h
 have HR8:=qAZ hr
 clear hl h hr
 have hn3:n<B64:=by unfold B64;omega
 have hvn:(vb n).length≤10:=qBU 9 n qf
 have HW:Hid (IntKind.u64.wrap (n:Int)=(n:Int)):=by show IntKind.u64.wrap (n:Int)=_;rw[IntKind.wrap_u64];omega
 have hw:=HW.out
 go_enter Tryz.func82,Tryz.ntmps82
 go_wp2_with fail
 refine(qBE n w hn3).mono ?_
 rintro e w1 ⟨u1,rfl,hown1,hb1⟩
 have HO1:=qAZ hown1
 have HB1:=qAZ hb1
 clear hown1 hb1 hw
 go_wp2_with fail
 go_loopw [8,9] (fun s i wr=>∃k:Nat,k≤n∧i= .int .i64 (k:Nat)∧(xs.take k).all (goodT r)=true∧(∃q,q=vb n++((xs.take k).map tB).flatten∧q.length≤10+k*4∧wr.ownsRow w.heap.size 5 1 s q.length (Bs q))∧Below w.heap.size w wr) (fun _ i _=>n-(intOf i).toNat)
 case atStart=>
  exact⟨0,qAs _,rfl,by simp,⟨_,rfl,by simpa using hvn,by simpa using HO1.out⟩,HB1.out⟩
 case round=>
  obtain⟨k,hk,rfl,hall,⟨q,hq,hq2,hown⟩,hbel⟩:=hrel
  have HA:=qAZ hall
  have HO:=qAZ hown
  have HB:=qAZ hbel
  have HQ:=qAZ hq
  have hs:=hbel.size
  clear hown hbel hq hall
  by_cases hlt:k<n
  · obtain⟨x,hx⟩:∃x,xs[k]? =some x:=⟨xs[k]'qd,qAa _⟩
    have HX:=qAZ hx
    obtain⟨a,cs,rfl,hab,hc,hr⟩:=HS.out.at hx
    have HF:=qAZ (qBT tB xs k x hx)
    obtain⟨rfl,i1,i2⟩:=hr
    have c0:=(HB.out.cell (p:=a.add (k*2)) qE).trans (hc 0 _ rfl)
    have c1:=(HB.out.cell (p:=a.add (k*2+1)) qE).trans (hc 1 _ rfl)
    have HC0:Hid (∀w1,Below w.heap.size w w1→w1.cell? (a.add (k*2))=some (.int .i64 x.1)∧w1.cell? ⟨(a.add (k*2)).block,(a.add (k*2)).off+1,none⟩=some (.int .i64 x.2)):=fun w1 hb=>
     ⟨(hb.cell (p:=a.add (k*2)) qE).trans (hc 0 _ rfl),by rw[←qAl a (k*2) 1 (by omega)];exact(hb.cell (p:=a.add (k*2+1)) qE).trans (hc 1 _ rfl)⟩
    rw[qAl a (k*2) 1 (by omega)] at c1
    clear hc hx
    go_wp2_with fail
    refine qCI fun W hW=> ?_
    have HBW:Hid (Below w.heap.size w W):=by show Below _ _ _;rw[hW];first|exact HB.out|exact HB.out.alloc hs _
    have HOW:Hid (W.ownsRow w.heap.size 5 1 u8 q.length (Bs q)):=by show World.ownsRow _ _ _ _ _ _ _;rw[hW];first|exact HO.out|exact HO.out.alloc _
    have hsW:=HBW.out.size
    clear hW
    refine(qIm x.1 x.2 r W).mono ?_
    rintro e w2 ⟨rfl,hb2⟩
    have HB2:=qAZ (HBW.out.trans (hb2.mono hsW))
    have HO2:=qAZ (qA4 HOW.out hb2 (qAf _))
    have hs2:=HB2.out.size
    have hg:goodT r x=goodB x.1 x.2 r:=rfl
    clear hb2 c0 c1
    cases hgd:goodB x.1 x.2 r
    · have HG:Hid (goodT r x=false):=hgd
      clear hg
      go_wp2_with fail
      go_ret2
      refine⟨HB2.out,.inr ⟨?_,rfl⟩⟩
      rw[List.all_eq_false]
      exact⟨x,qAk HX.out,by rw[HG.out];simp⟩
    · have HG:Hid (goodT r x=true):=hgd
      have ht4:=qC6 HR8.out HG.out
      obtain⟨c0,c1⟩:=HC0.out w2 HB2.out
      clear hg hgd
      go_wp2_with fail
      refine qCI fun W3 hW3=> ?_
      have HB3:Hid (Below w.heap.size w W3):=by show Below _ _ _;rw[hW3];first|exact HB2.out|exact HB2.out.alloc hs2 _
      have HO3:Hid (W3.ownsRow w.heap.size 5 1 u8 q.length (Bs q)):=by show World.ownsRow _ _ _ _ _ _ _;rw[hW3];first|exact HO2.out|exact HO2.out.alloc _
      have hs3:=HB3.out.size
      clear hW3 c0 c1
      refine(qIf x.1 x.2 W3 i1 i2).mono ?_
      rintro e w4 ⟨u4,rfl,hown4,hb4⟩
      obtain⟨A4,c4,rfl,-,-,-,hB4⟩:=qA5 hown4
      have HY4:=qAZ hB4
      have HB4:=qAZ (HB3.out.trans (hb4.mono hs3))
      have HO4:=qAZ (qA4 HO3.out hb4 (qAf _))
      have hs4:=HB4.out.size
      have ht5:(typB x.1 x.2).length≤4:=ht4
      clear hown4 hB4 hb4
      obtain⟨y,hy⟩:∃y,typB x.1 x.2=y:=⟨_,rfl⟩
      have HYE:Hid (tB x=y):=hy
      rw[hy] at ht5 HY4⊢
      clear hy ht4
      go_wp2_with (at_builtin
                   refine qA3 _ rfl (.tmp 27) (.tmp 32) rfl w.heap.size u8 q.length q rfl HO4.out A4 y.length c4 y rfl rfl _ HY4.out (by omega) (by omega) ?_
                   intro v5 w5 hown5 hg5 _
                   have HO5:=qAZ hown5
                   have HB5:=qAZ (HB4.out.grown hg5 (by omega) (fun i hi=>(HO4.out.lt i hi).1))
                   clear hown5 hg5)
      refine⟨⟨k+1,by omega,by simp,qEM HA.out HX.out HG.out,⟨q++y,?_,?_,?_⟩,HB5.out⟩,by simp[intOf];omega⟩
      · rw[HF.out,HQ.out,HYE.out]
        simp[List.append_assoc]
      · simp[List.length_append]
        omega
      · rw[List.length_append]
        exact HO5.out
  · obtain rfl:k=n:=by omega
    have e:lB tB xs=q:=by
     rw[HQ.out,qAr qZ,lB,HL.out]
    have ea:=HA.out
    rw[qAr qZ] at ea
    have HE:=qAZ e
    have HEA:=qAZ ea
    clear e ea
    go_wp2_with fail
    go_ret2
    refine⟨HB.out,.inl ⟨HEA.out,u8,?_,?_⟩⟩
    · rw[HL.out]
      rfl
    · rw[HE.out]
      exact HO.out
def ones:List Int:=[0,1,3,4,23,24,25,27,28]
theorem qJZ (op:Int) (k:Nat) (hk:k<9) (h:ones[k]?.getD 0=op):argN op=1:=by
 subst h
 unfold argN ones
 have:k=0∨k=1∨k=2∨k=3∨k=4∨k=5∨k=6∨k=7∨k=8:=by omega
 rcases this with rfl|rfl|rfl|rfl|rfl|rfl|rfl|rfl|rfl<;>rfl
theorem qIM (op:Int) (h0:¬op<0) (h1:op<42) (h2:op≠29) (h3:op≠30) (h:∀j,j<9→ones[j]?.getD 0≠op):argN op=0:=by
 have a0:=h 0 (by omega)
 have a1:=h 1 (by omega)
 have a2:=h 2 (by omega)
 have a3:=h 3 (by omega)
 have a4:=h 4 (by omega)
 have a5:=h 5 (by omega)
 have a6:=h 6 (by omega)
 have a7:=h 7 (by omega)
 have a8:=h 8 (by omega)
 simp[ones] at a0 a1 a2 a3 a4 a5 a6 a7 a8
 unfold argN
 rw[if_neg (by omega),if_neg (by omega),if_neg (by omega)]
theorem qCG (op:Int) (w:World):Calls Tryz.prog 114 #[.int .i64 op] w fun e w'=>e= .returned (.int .i64 (argN op))∧Below w.heap.size w w':=by
 by_cases hlo:op<0
 · exact jo
 by_cases hhi:42≤op
 · exact jo
 by_cases h29:op=29
 · subst h29
   exact qAB
 by_cases h30:op=30
 · subst h30
   exact qAB
 have e29:(op==29)=false:=by simp[h29]
 have e30:(op==30)=false:=by simp[h30]
 go_enter Tryz.func114,Tryz.ntmps114
 go_wp2_with fail
 refine qAp fun W hW=> ?_
 have hcell:Hid (∀k,k<9→W.cell? ⟨w.heap.size,k,none⟩=some (.int .i64 (ones[k]?.getD 0))):=by
  intro k hk
  rw[hW]
  have:k=0∨k=1∨k=2∨k=3∨k=4∨k=5∨k=6∨k=7∨k=8:=by omega
  rcases this with rfl|rfl|rfl|rfl|rfl|rfl|rfl|rfl|rfl<;>simp[go_sem,ones]
 have HB:Hid (Below w.heap.size w W):=by
  show Below w.heap.size w W
  rw[hW]
  exact(qAe _ _).alloc (qAf _) _
 clear hW
 go_loop [4] (fun i=>∃k:Nat,k≤9∧i= .int .i64 (k:Nat)∧∀j,j<k→ones[j]?.getD 0≠op) (fun i=>9-(intOf i).toNat)
 case atStart=>exact⟨0,by omega,rfl,fun j hj=>absurd hj (by omega)⟩
 case round=>
  obtain⟨k,hk,rfl,hall⟩:=hrel
  have HA:=qAZ hall
  clear hall
  by_cases hlt:k<9
  · have hc:=hcell.out k hlt
    obtain⟨z,hz⟩:∃z,ones[k]?.getD 0=z:=⟨_,rfl⟩
    rw[hz] at hc
    have HZ:=qAZ hz
    clear hz
    by_cases he:z=op
    · subst he
      go_wp2_with fail
      go_ret
      exact⟨qE0 (qJZ z k hlt HZ.out).symm,HB.out⟩
    · have he2:(z==op)=false:=by simp[he]
      go_wp2_with fail
      refine⟨⟨k+1,by omega,by simp,fun j hj=> ?_⟩,by simp[intOf];omega⟩
      rcases Nat.lt_or_ge j k with h|h
      · exact HA.out j h
      · obtain rfl:j=k:=by omega
        rw[HZ.out]
        exact he
  · obtain rfl:k=9:=by omega
    go_wp2_with fail
    go_ret
    exact⟨qE0 (qIM op (by omega) (by omega) h29 h30 HA.out).symm,HB.out⟩
theorem qHE (op a b:Int) (w:World) (h:goodI op a b=false):
 Calls Tryz.prog 85 #[.agg #[.int .i64 op,.int .i64 a,.int .i64 b]] w fun e w'=>e= .returned (.slice none 0 0)∧Below w.heap.size w w':=by
 have h':¬(0≤argN op∧0≤a∧a≤(if 0<argN op then 255 else 0)∧0≤b∧b≤(if 1<argN op then 255 else 0)):=by
  intro hh
  unfold goodI fitN at h
  simp only[Bool.and_eq_false_iff,decide_eq_false_iff_not] at h
  rcases h with h|h
  · exact h hh.1
  · exact h hh.2
 have AR:=qAZ (fun w=>qCG op w)
 obtain⟨n,hn⟩:∃n,argN op=n:=⟨_,rfl⟩
 rw[hn] at h' AR
 clear hn h
 by_cases n0:n<0
 · exact qI
 by_cases a0:a<0
 · exact qI
 by_cases a1:255<a
 · exact qI
 by_cases b0:b<0
 · exact qI
 by_cases b1:255<b
 · exact qI
 by_cases m1:n<1
 · by_cases az:a=0
   · subst az
     by_cases bz:b=0
     · exact absurd ⟨by omega,by omega,by rw[if_neg (by omega)];omega,by omega,by rw[if_neg (by omega)];omega⟩ h'
     · have m2:n<2:=by omega
       have bz':(b==0)=false:=by simp[bz]
       have bz2:(b != 0)=true:=by simp[bz]
       clear h'
       go_enter Tryz.func85,Tryz.ntmps85
       go_wp2_with (first
        |(go_at_call 114
          refine(AR.out _).mono ?_
          rintro e w1 ⟨rfl,hb1⟩
          have HB1:Hid (Below w.heap.size w w1):=((qAe _ _).alloc (qAf _) _).trans (hb1.mono (by simp))
          have hk:=(hb1.block w.heap.size (by simp)).trans (qAz w 65 #[.int .i64 op,.int .i64 0,.int .i64 b])
          have HK:=qAZ hk
          have k0:=Blk.cell hk 0
          have k1:=Blk.cell hk 1
          have k2:=Blk.cell hk 2
          have hs1:w.heap.size<w1.heap.size:=zU
          simp at k0 k1 k2
          clear hb1 hk))
       go_ret
       exact⟨rfl,HB1.out⟩
   · have az':(a==0)=false:=by simp[az]
     have az2:(a != 0)=true:=by simp[az]
     exact qI
 · by_cases m2:n<2
   · by_cases bz:b=0
     · exact absurd ⟨by omega,by omega,by rw[if_pos (by omega)];omega,by omega,by rw[if_neg (by omega)];omega⟩ h'
     · have bz':(b==0)=false:=by simp[bz]
       have bz2:(b != 0)=true:=by simp[bz]
       exact qI
   · exact absurd ⟨by omega,by omega,by rw[if_pos (by omega)];omega,by omega,by rw[if_pos (by omega)];omega⟩ h'
theorem rins_0 (o x y:Nat) (w:World) (h:goodI o x y=true) (hn:argN o=0):
 Calls Tryz.prog 85 #[.agg #[.int .i64 (o:Nat),.int .i64 (x:Nat),.int .i64 (y:Nat)]] w fun e w'=>∃u,e= .returned u∧w'.ownsRow w.heap.size 5 1 u (insB o x y).length (Bs (insB o x y))∧Below w.heap.size w w':=by
 have AR:=qAZ (fun w=>qCG o w)
 rw[hn] at AR
 obtain⟨o',x',y',eo,ex,ey,ho,hx,hy,-,hx1,hy1⟩:=qBF h
 obtain rfl:o=o':=by omega
 obtain rfl:x=x':=by omega
 obtain rfl:y=y':=by omega
 have HE:Hid (insB o x y=[o]++bodyB 0 x y):=by
  show insB o x y=[o]++bodyB 0 x y
  rw[qBm h,hn]
  rfl
 have HO:Hid (o<256):=by show o<256;omega
 have HX64:Hid (x<B64):=by show x<B64;unfold B64;omega
 have HY64:Hid (y<B64):=by show y<B64;unfold B64;omega
 have HL1:Hid (1+(vb x).length≤140737488355328):=by show 1+(vb x).length≤140737488355328;have:=qBu x hx;omega
 have HL2:Hid (1+(vb x).length+(vb y).length≤140737488355328):=by show 1+(vb x).length+(vb y).length≤140737488355328;have:=qBu x hx;have:=qBu y hy;omega
 clear eo ex ey
 have hx0:x=0:=hx1 (by rw[hn];decide)
 have hy0:y=0:=hy1 (by rw[hn];decide)
 subst hx0 hy0
 clear hn h hx1 hy1
 go_enter Tryz.func85,Tryz.ntmps85
 go_wp2_with (first
  |(go_at_call 114
    refine(AR.out _).mono ?_
    rintro e w1 ⟨rfl,hb1⟩
    have HB1:Hid (Below w.heap.size w w1):=((qAe _ _).alloc (qAf _) _).trans (hb1.mono (by simp))
    have hk:=(hb1.block w.heap.size (by simp)).trans (qAz w 65 #[.int .i64 (o:Nat),.int .i64 0,.int .i64 0])
    have HK:=qAZ hk
    have k0:=Blk.cell hk 0
    have k1:=Blk.cell hk 1
    have k2:=Blk.cell hk 2
    have hs1:w.heap.size<w1.heap.size:=zU
    simp at k0 k1 k2
    clear hb1 hk))
 go_ret
 have e:insB o 0 0=[o]:=by have:=HE.out;simp[bodyB] at this ⊢;exact this
 have el:(insB o 0 0).length=1:=by rw[e];simp;try omega
 refine⟨_,rfl,?_,HB1.out.alloc HB1.out.size _⟩
 have:=qBc (qDH w1 _ o rfl) HB1.out.size
 simp at el e⊢
 rw[el,e]
 exact this
theorem rins_1 (o x y:Nat) (w:World) (h:goodI o x y=true) (hn:argN o=1):
 Calls Tryz.prog 85 #[.agg #[.int .i64 (o:Nat),.int .i64 (x:Nat),.int .i64 (y:Nat)]] w fun e w'=>∃u,e= .returned u∧w'.ownsRow w.heap.size 5 1 u (insB o x y).length (Bs (insB o x y))∧Below w.heap.size w w':=by
 have AR:=qAZ (fun w=>qCG o w)
 rw[hn] at AR
 obtain⟨o',x',y',eo,ex,ey,ho,hx,hy,-,hx1,hy1⟩:=qBF h
 obtain rfl:o=o':=by omega
 obtain rfl:x=x':=by omega
 obtain rfl:y=y':=by omega
 have HE:Hid (insB o x y=[o]++bodyB 1 x y):=by
  show insB o x y=[o]++bodyB 1 x y
  rw[qBm h,hn]
  rfl
 have HO:Hid (o<256):=by show o<256;omega
 have HX64:Hid (x<B64):=by show x<B64;unfold B64;omega
 have HY64:Hid (y<B64):=by show y<B64;unfold B64;omega
 have HL1:Hid (1+(vb x).length≤140737488355328):=by show 1+(vb x).length≤140737488355328;have:=qBu x hx;omega
 have HL2:Hid (1+(vb x).length+(vb y).length≤140737488355328):=by show 1+(vb x).length+(vb y).length≤140737488355328;have:=qBu x hx;have:=qBu y hy;omega
 clear eo ex ey
 have hy0:y=0:=hy1 (by rw[hn];decide)
 subst hy0
 clear hn h hx1 hy1
 go_enter Tryz.func85,Tryz.ntmps85
 go_wp2_with (first
  |(go_at_call 114
    refine(AR.out _).mono ?_
    rintro e w1 ⟨rfl,hb1⟩
    have HB1:Hid (Below w.heap.size w w1):=((qAe _ _).alloc (qAf _) _).trans (hb1.mono (by simp))
    have hk:=(hb1.block w.heap.size (by simp)).trans (qAz w 65 #[.int .i64 (o:Nat),.int .i64 (x:Nat),.int .i64 0])
    have HK:=qAZ hk
    have k0:=Blk.cell hk 0
    have k1:=Blk.cell hk 1
    have k2:=Blk.cell hk 2
    have hs1:w.heap.size<w1.heap.size:=zU
    simp at k0 k1 k2
    clear hb1 hk)
  |(go_at_call 81
    refine(qBE x _ HX64.out).mono ?_
    rintro e w4 ⟨u4,rfl,hown4,hb4⟩
    obtain⟨A4,c4,rfl,-,-,-,hY4⟩:=qA5 hown4
    have HY4:=qAZ hY4
    have HO4:=qAZ (qA4 (qDH w1 _ o rfl) hb4 (qAf _))
    have HB4:Hid (Below w1.heap.size w1 w4):=((qAe _ _).alloc (qAf _) _).trans (hb4.mono (by simp))
    have HS4:=qAZ HB4.out.size
    clear hown4 hY4 hb4)
  |(at_builtin
    refine qA3 _ rfl (.tmp 54) (.tmp 58) rfl w1.heap.size (.slice (some ⟨w1.heap.size,0,none⟩) 1 1) 1 [o] rfl HO4.out A4 (vb x).length c4 (vb x) rfl rfl _ HY4.out HL1.out HS4.out ?_
    intro v5 w5 hown5 hg5 _
    have HO5:=qAZ hown5
    have HB5:=qAZ (HB4.out.grown hg5 HS4.out (fun i hi=>(HO4.out.lt i hi).1))
    have hk5:=(HB5.out.block w.heap.size hs1).trans HK.out
    have k52:=Blk.cell hk5 2
    simp at k52
    clear hown5 hg5 hk5))
 go_ret
 have e:insB o x 0=[o]++vb x:=by have:=HE.out;simp[bodyB] at this ⊢;exact this
 have el:(insB o x 0).length=1+(vb x).length:=by rw[e];simp;try omega
 refine⟨_,rfl,?_,HB1.out.trans (HB5.out.mono HB1.out.size)⟩
 simp only[Int.ofNat_zero,Int.natCast_zero] at el e⊢
 rw[el,e]
 exact qBc HO5.out HB1.out.size
theorem rins_2 (o x y:Nat) (w:World) (h:goodI o x y=true) (hn:argN o=2):
 Calls Tryz.prog 85 #[.agg #[.int .i64 (o:Nat),.int .i64 (x:Nat),.int .i64 (y:Nat)]] w fun e w'=>∃u,e= .returned u∧w'.ownsRow w.heap.size 5 1 u (insB o x y).length (Bs (insB o x y))∧Below w.heap.size w w':=by
 have AR:=qAZ (fun w=>qCG o w)
 rw[hn] at AR
 obtain⟨o',x',y',eo,ex,ey,ho,hx,hy,-,hx1,hy1⟩:=qBF h
 obtain rfl:o=o':=by omega
 obtain rfl:x=x':=by omega
 obtain rfl:y=y':=by omega
 have HE:Hid (insB o x y=[o]++bodyB 2 x y):=by
  show insB o x y=[o]++bodyB 2 x y
  rw[qBm h,hn]
  rfl
 have HO:Hid (o<256):=by show o<256;omega
 have HX64:Hid (x<B64):=by show x<B64;unfold B64;omega
 have HY64:Hid (y<B64):=by show y<B64;unfold B64;omega
 have HL1:Hid (1+(vb x).length≤140737488355328):=by show 1+(vb x).length≤140737488355328;have:=qBu x hx;omega
 have HL2:Hid (1+(vb x).length+(vb y).length≤140737488355328):=by show 1+(vb x).length+(vb y).length≤140737488355328;have:=qBu x hx;have:=qBu y hy;omega
 clear eo ex ey
 clear hn h hx1 hy1
 go_enter Tryz.func85,Tryz.ntmps85
 go_wp2_with (first
  |(go_at_call 114
    refine(AR.out _).mono ?_
    rintro e w1 ⟨rfl,hb1⟩
    have HB1:Hid (Below w.heap.size w w1):=((qAe _ _).alloc (qAf _) _).trans (hb1.mono (by simp))
    have hk:=(hb1.block w.heap.size (by simp)).trans (qAz w 65 #[.int .i64 (o:Nat),.int .i64 (x:Nat),.int .i64 (y:Nat)])
    have HK:=qAZ hk
    have k0:=Blk.cell hk 0
    have k1:=Blk.cell hk 1
    have k2:=Blk.cell hk 2
    have hs1:w.heap.size<w1.heap.size:=zU
    simp at k0 k1 k2
    clear hb1 hk)
  |(go_at_call 81
    have hp:=HO5.out
    clear hp
    refine(qBE y w5 HY64.out).mono ?_
    rintro e w6 ⟨u6,rfl,hown6,hb6⟩
    obtain⟨A6,c6,rfl,-,-,-,hY6⟩:=qA5 hown6
    have HY6:=qAZ hY6
    have HO6:=qAZ (qA4 HO5.out hb6 (qAf _))
    have HB6:=qAZ (HB5.out.trans (hb6.mono HB5.out.size))
    have HS6:=qAZ HB6.out.size
    clear hown6 hY6 hb6)
  |(at_builtin
    have hp:=HO6.out
    clear hp
    refine qA3 _ rfl (.tmp 62) (.tmp 66) rfl w1.heap.size v5 (1+(vb x).length) ([o]++vb x) rfl HO6.out A6 (vb y).length c6 (vb y) rfl rfl _ HY6.out HL2.out HS6.out ?_
    intro v7 w7 hown7 hg7 _
    have HO7:=qAZ hown7
    have HB7:=qAZ (HB6.out.grown hg7 HS6.out (fun i hi=>(HO6.out.lt i hi).1))
    clear hown7 hg7)
  |(go_at_call 81
    refine(qBE x _ HX64.out).mono ?_
    rintro e w4 ⟨u4,rfl,hown4,hb4⟩
    obtain⟨A4,c4,rfl,-,-,-,hY4⟩:=qA5 hown4
    have HY4:=qAZ hY4
    have HO4:=qAZ (qA4 (qDH w1 _ o rfl) hb4 (qAf _))
    have HB4:Hid (Below w1.heap.size w1 w4):=((qAe _ _).alloc (qAf _) _).trans (hb4.mono (by simp))
    have HS4:=qAZ HB4.out.size
    clear hown4 hY4 hb4)
  |(at_builtin
    refine qA3 _ rfl (.tmp 54) (.tmp 58) rfl w1.heap.size (.slice (some ⟨w1.heap.size,0,none⟩) 1 1) 1 [o] rfl HO4.out A4 (vb x).length c4 (vb x) rfl rfl _ HY4.out HL1.out HS4.out ?_
    intro v5 w5 hown5 hg5 _
    have HO5:=qAZ hown5
    have HB5:=qAZ (HB4.out.grown hg5 HS4.out (fun i hi=>(HO4.out.lt i hi).1))
    have hk5:=(HB5.out.block w.heap.size hs1).trans HK.out
    have k52:=Blk.cell hk5 2
    simp at k52
    clear hown5 hg5 hk5))
 go_ret
 have e:insB o x y=[o]++vb x++vb y:=by have:=HE.out;simp[bodyB] at this ⊢;exact this
 have el:(insB o x y).length=1+(vb x).length+(vb y).length:=by rw[e];simp;try omega
 refine⟨_,rfl,?_,HB1.out.trans (HB7.out.mono HB1.out.size)⟩
 rw[el,e]
 exact qBc HO7.out HB1.out.size
theorem qIk (op a b:Int) (w:World):
 Calls Tryz.prog 85 #[.agg #[.int .i64 op,.int .i64 a,.int .i64 b]] w fun e w'=>∃u,e= .returned u∧w'.ownsRow w.heap.size 5 1 u (insB op a b).length (Bs (insB op a b))∧Below w.heap.size w w':=by
 by_cases h:goodI op a b=true
 · obtain⟨o,x,y,rfl,rfl,rfl,-,-,-,h0,-⟩:=qBF h
   rcases qEL o with hn|hn|hn|hn
   · omega
   · exact rins_0 o x y w h hn
   · exact rins_1 o x y w h hn
   · exact rins_2 o x y w h hn
 · rw[qCz h]
   refine(qHE op a b w (by simpa using h)).mono ?_
   rintro e w' ⟨rfl,hb⟩
   exact⟨_,rfl,qG1 _ _,hb⟩
end Go.Proofs.YtconajaecpgjgaaGreat
