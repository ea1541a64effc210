/-
Iss Rsn Twk Gh0 Im Iun Pkm Km Nvr Own Kpt Le Wid Nfx Mo Lay Sn
-/
import Derived.Test.YtconajaecpgjgaaQ01
import Derived.Test.YtconajaecpgjgaaQ02
import Derived.BigQuiet
import Derived.Deep.DeepCutAuto
import Init
import Derived.Lib.AppendStr
set_option linter.unusedSimpArgs false
set_option linter.unusedVariables false
set_option maxRecDepth 100000
set_option maxHeartbeats 4000000
namespace Go.Proofs.Ytconajaecpgjgaa
open Go.RowKit
abbrev Ins:=Int×Int×Int
def i3 (t:Ins):List Value:=[.int .i64 t.1,.int .i64 t.2.1,.int .i64 t.2.2]
def I3:List Ins→List Value
 |[]=>[]
 |t::ts=>i3 t++I3 ts
def Iss (S:Nat→Prop) (w:World) (A:Option Addr) (ts:List Ins):Prop:=
 0<ts.length→∃a,A=some a∧S a.block∧∀j,j<ts.length→
  w.cell? (a.add (j*3))=some (.int .i64 (ts[j]?.getD (0,0,0)).1)∧w.cell? (a.add (j*3+1))=some (.int .i64 (ts[j]?.getD (0,0,0)).2.1)∧w.cell? (a.add (j*3+2))=some (.int .i64 (ts[j]?.getD (0,0,0)).2.2)
theorem Iss.nil (S:Nat→Prop) (w:World) (A:Option Addr):Iss S w A []:=fun h=>absurd h (by simp)
theorem Iss.keep {S:Nat→Prop} {w w':World} {A:Option Addr} {ts:List Ins} (h:Iss S w A ts) (hk:∀b,S b→w'.heap[b]? =w.heap[b]?):Iss S w' A ts:=fun hn=>by
 obtain⟨a,e,hs,hc⟩:=h hn
 refine⟨a,e,hs,fun j hj=> ?_⟩
 obtain⟨h0,h1,h2⟩:=hc j hj
 exact⟨(zZ (hk _ zI)).trans h0,(zZ (hk _ zI)).trans h1,(zZ (hk _ zI)).trans h2⟩
theorem Iss.wide {S T:Nat→Prop} {w:World} {A:Option Addr} {ts:List Ins} (h:Iss S w A ts) (hk:∀b,S b→T b):Iss T w A ts:=fun hn=>by
 obtain⟨a,e,hs,hc⟩:=h hn
 exact⟨a,e,hk _ hs,hc⟩
theorem Iss.below {B B':Nat} {w w':World} {A:Option Addr} {ts:List Ins} (h:Iss (·<B) w A ts) (hb:Below B' w w') (hB:B≤B'):Iss (·<B) w' A ts:=h.keep fun b h1=>hb.block b (zP h1 hB)
theorem Iss.at {S:Nat→Prop} {w:World} {A:Option Addr} {ts:List Ins} (h:Iss S w A ts) {k:Nat} (hk:k<ts.length):
 ∃a,A=some a∧S a.block∧w.cell? (a.add (k*3))=some (.int .i64 (ts[k]?.getD (0,0,0)).1)∧w.cell? (a.add (k*3+1))=some (.int .i64 (ts[k]?.getD (0,0,0)).2.1)∧w.cell? (a.add (k*3+2))=some (.int .i64 (ts[k]?.getD (0,0,0)).2.2):=by
 obtain⟨a,e,hs,hc⟩:=h (by omega)
 exact⟨a,e,hs,hc k hk⟩
theorem obj_len {S:Nat→Prop} {w:World} {A:Option Addr} {fs:List Ob} (h:Sq obL S w A fs) {k:Nat} {f:Ob} (hk:fs[k]? =some f):
 ∃a P0 c0 P1 c1,A=some a∧w.cell? ⟨(a.add (k*4)).block,(a.add (k*4)).off+2,none⟩=some (.slice P0 f.words.length c0)∧w.cell? ⟨(a.add (k*4)).block,(a.add (k*4)).off+3,none⟩=some (.slice P1 f.bytes.length c1):=by
 obtain⟨a,cs,e,hs,hc,hR⟩:=h.at hk
 obtain⟨P0,c0,P1,c1,rfl,-⟩:=jH hR
 have k2:=hc 2 _ rfl
 have k3:=hc 3 _ rfl
 rw[show k*obL.k+2=k*4+2 from rfl,zV a (k*4) 2 (by omega)] at k2
 rw[show k*obL.k+3=k*4+3 from rfl,zV a (k*4) 3 (by omega)] at k3
 exact⟨a,P0,c0,P1,c1,e,k2,k3⟩
theorem frm_len {S:Nat→Prop} {w:World} {A:Option Addr} {fs:List Frm} (h:Sq frL S w A fs) {k:Nat} {f:Frm} (hk:fs[k]? =some f):
 ∃a P0 c0 P1 c1,A=some a∧w.cell? ⟨(a.add (k*4)).block,(a.add (k*4)).off+2,none⟩=some (.slice P0 f.locs.length c0)∧w.cell? ⟨(a.add (k*4)).block,(a.add (k*4)).off+3,none⟩=some (.slice P1 f.stk.length c1):=by
 obtain⟨a,cs,e,hs,hc,hR⟩:=h.at hk
 obtain⟨P0,c0,P1,c1,rfl,-⟩:=jC hR
 have k2:=hc 2 _ rfl
 have k3:=hc 3 _ rfl
 rw[show k*frL.k+2=k*4+2 from rfl,zV a (k*4) 2 (by omega)] at k2
 rw[show k*frL.k+3=k*4+3 from rfl,zV a (k*4) 3 (by omega)] at k3
 exact⟨a,P0,c0,P1,c1,e,k2,k3⟩
def Stt.held (s:Stt):Prop:=s.fr.length≤1000000000000000∧s.hp.length≤1000000000000000∧s.hn.length≤1000000000000000∧(∀f∈s.fr,f.locs.length≤1000000000000000∧f.stk.length≤1000000000000000)∧∀o∈s.hp,o.words.length≤1000000000000000∧o.bytes.length≤1000000000000000
def sumO (xs:List Ob):Nat:=(xs.map fun o=>o.words.length+o.bytes.length).sum
def sumF (xs:List Frm):Nat:=(xs.map fun f=>f.locs.length+f.stk.length).sum
theorem qCR {xs:List Ob} {k:Nat} {x:Ob} (hx:xs[k]? =some x):sumO (xs.take (k+1))=sumO (xs.take k)+x.words.length+x.bytes.length:=by
 obtain⟨h1,rfl⟩:=zR.1 hx
 rw[za h1]
 simp only[sumO,List.map_append,List.map_cons,List.map_nil,List.sum_append,List.sum_cons,List.sum_nil]
 omega
theorem qCS {xs:List Frm} {k:Nat} {x:Frm} (hx:xs[k]? =some x):sumF (xs.take (k+1))=sumF (xs.take k)+x.locs.length+x.stk.length:=by
 obtain⟨h1,rfl⟩:=zR.1 hx
 rw[za h1]
 simp only[sumF,List.map_append,List.map_cons,List.map_nil,List.sum_append,List.sum_cons,List.sum_nil]
 omega
def smB (s:Stt):Bool:=decide (s.hp.length+s.hn.length+s.fr.length≤300) && decide (s.hp.length+s.hn.length+s.fr.length+sumO s.hp+sumF s.fr<3000)
theorem jE {n:Int} (h1: -4611686018427387904≤n) (h2:n≤4611686018427387904):IntKind.i64.wrap n=n:=by rw[IntKind.wrap_i64];omega
theorem jt {α:Type} {xs:List α} {k:Nat} {x y:α} (hx:xs[k]? =some x) (hy:y∈xs.take (k+1)):y∈xs.take k∨y=x:=by
 obtain⟨h1,rfl⟩:=zR.1 hx
 rw[za h1] at hy
 rcases List.mem_append.1 hy with q|q
 · exact .inl q
 · exact .inr (by simpa using q)
theorem qAt (css:List Value) (s:Stt) (w:World) (hs:stL.R (·<w.heap.size) w css s) (hz:s.held):
 Calls Try.prog 4 #[vAgg css] w fun e w'=>(e= .returned (.bool (smB s))∧(smB s=true→s.low))∧Below w.heap.size w w':=by
 obtain⟨F,cf,O,co,H,ch,rfl,-,-,-,-,-,-,sF,sO,-⟩:=zu hs
 obtain⟨b0,b1,b2,b3,b4⟩:=hz
 obtain⟨nf,hnf⟩:∃x,s.fr.length=x:=⟨_,rfl⟩
 obtain⟨no,hno⟩:∃x,s.hp.length=x:=⟨_,rfl⟩
 obtain⟨nh,hnh⟩:∃x,s.hn.length=x:=⟨_,rfl⟩
 have HNF:=zL hnf
 have HNO:=zL hno
 have HNH:=zL hnh
 have HSF:=zL sF
 have HSO:=zL sO
 have HZF:=zL b3
 have HZO:=zL b4
 rw[hnf,hno,hnh]
 rw[hnf] at b0
 rw[hno] at b1
 rw[hnh] at b2
 simp only[vAgg]
 show Calls Try.prog 4 #[.agg #[.slice F nf cf,.slice O no co,.slice H nh ch,.int .i64 s.quota,.int .i64 s.used,.int .i64 s.fin,.int .u64 (s.val:Int)]] w _
 clear hs hnf hno hnh sF sO b3 b4
 have w1:IntKind.i64.wrap ((no:Int)+nh)=no+nh:=jE (by omega) (by omega)
 have w2:IntKind.i64.wrap ((no:Int)+nh+nf)=no+nh+nf:=jE (by omega) (by omega)
 go_enter Try.func4,Try.ntmps4
 go_upto_region 1 with(fail)
 refine zi fun W hW=> ?_
 have hbw:Below w.heap.size w W:=by rw[hW];exact(zS _ _).alloc (zQ _) _
 have hks:Blk W w.heap.size 27 #[.slice F nf cf,.slice O no co,.slice H nh ch,.int .i64 s.quota,.int .i64 s.used,.int .i64 s.fin,.int .u64 (s.val:Int)]:=by rw[hW];exact zl rfl
 have HBW:=zL hbw
 have hW0:=hbw.size
 have y0:W.cell? ⟨w.heap.size,0,none⟩=some (.slice F nf cf):=hks.cell 0
 have y1:W.cell? ⟨w.heap.size,1,none⟩=some (.slice O no co):=hks.cell 1
 have y2:W.cell? ⟨w.heap.size,2,none⟩=some (.slice H nh ch):=hks.cell 2
 clear hW hbw hks
 go_cut [3] (fun s3 wx=>s3= .int .i64 ((no:Int)+nh+nf)∧wx=W)
 case first=>
  go_wp2_with fail
  go_meet
  exact⟨rfl,rfl⟩
 case rest=>
  obtain⟨rfl,ew⟩:=hcut
  have ew:=ew.symm
  subst ew
  clear w1 w2
  by_cases hz:300<(no:Int)+nh+nf
  · go_wp2_with fail
    go_ret
    have hb:smB s=false:=by
     rw[smB,HNF.out,HNO.out,HNH.out,decide_eq_false (by omega)]
     rfl
    rw[hb]
    exact⟨⟨rfl,fun h=>by cases h⟩,HBW.out⟩
  · obtain⟨z0,ez⟩:∃z:Nat,no+nh+nf=z:=⟨_,rfl⟩
    have e0:(no:Int)+nh+nf=(z0:Int):=by omega
    have hz0:z0≤300:=by omega
    have c0:no≤300:=by omega
    have c1:nf≤300:=by omega
    have c2:nh≤300:=by omega
    rw[e0] at hz⊢
    have EZ:=zL ez
    clear e0 ez b0 b1 b2
    have z0':¬(300<(z0:Int)):=hz
    go_wp2_with fail
    go_loopw [3,4] (fun s3 i wr=>∃(k q z:Nat),k≤no∧z≤300+k*2000000000000000∧z=z0+sumO (s.hp.take k)∧(∀o∈s.hp.take k,o.words.length≤z∧o.bytes.length≤z)∧s3= .int .i64 (z:Nat)∧i= .int .i64 (k:Nat)∧wr=W.drewN q) (fun _ i _=>no-(intOf i).toNat)
    case atStart=>exact⟨0,0,z0,zY _,by omega,rfl,by simp,rfl,rfl,rfl⟩
    case round=>
     obtain⟨k,q,z,hk,hzk,hsz,hall,rfl,rfl,rfl⟩:=hrel
     have HSZ:=zL hsz
     clear hsz
     have HA:=zL hall
     clear hall
     by_cases hlt:k<no
     · obtain⟨x,hx⟩:∃x,s.hp[k]? =some x:=⟨s.hp[k]'(by rw[HNO.out];exact hlt),zM _⟩
       obtain⟨a,P0,c0,P1,c1,rfl,r2,r3⟩:=obj_len HSO.out hx
       obtain⟨m0,m1⟩:=HZO.out x (zT hx)
       have HXX:=zL hx
       obtain⟨l0,e0⟩:∃l,x.words.length=l:=⟨_,rfl⟩
       obtain⟨l1,e1⟩:∃l,x.bytes.length=l:=⟨_,rfl⟩
       rw[e0] at m0 r2
       rw[e1] at m1 r3
       have z2:=(HBW.out.cell (zW w _ r2)).trans r2
       have z3:=(HBW.out.cell (zW w _ r3)).trans r3
       have k0:(0:Int)≤(k:Int):=by omega
       have k1:(k:Int)<(no:Int):=by omega
       have hkM:k*2000000000000000≤600000000000000000:=by omega
       have w1:IntKind.i64.wrap ((z:Int)+l0)=z+l0:=jE (by omega) (by omega)
       have w2:IntKind.i64.wrap ((z:Int)+l0+l1)=z+l0+l1:=jE (by omega) (by omega)
       have E0:=zL e0
       have E1:=zL e1
       clear hx r2 r3 e0 e1
       go_wp2_with fail
       go_quiet (fail)
       go_wp2_with fail
       refine⟨⟨k+1,_,z+l0+l1,by omega,by omega,by rw[qCR HXX.out,E0.out,E1.out];have:=HSZ.out;omega,fun o ho=> ?_,by simp,by simp,rfl⟩,by simp[intOf];omega⟩
       rcases jt HXX.out ho with q|rfl
       · have:=HA.out o q;omega
       · have:=E0.out;have:=E1.out;omega
     · have ek:no=k:=by omega
       subst ek
       clear hlt
       have HA2:Hid (∀o∈s.hp,o.words.length≤z∧o.bytes.length≤z):=(by have:=HA.out;rw[zU (by rw[HNO.out];exact zQ _)] at this;exact this)
       have hq:z≤600000000000000300:=by omega
       go_wp2_with fail
       go_loopw [3,5] (fun s3 i wr=>∃(k q y:Nat),k≤nf∧z≤y∧y≤600000000000000300+k*2000000000000000∧y=z+sumF (s.fr.take k)∧(∀o∈s.fr.take k,o.locs.length≤y∧o.stk.length≤y)∧s3= .int .i64 (y:Nat)∧i= .int .i64 (k:Nat)∧wr=W.drewN q) (fun _ i _=>nf-(intOf i).toNat)
       case atStart=>exact⟨0,q,z,zY _,zQ _,zp hq (Nat.le_add_right _ _),rfl,by simp,rfl,rfl,rfl⟩
       case round=>
        obtain⟨k,q,y,hk,hzy,hyk,hsy,hall,rfl,rfl,rfl⟩:=hrel
        have HSY:=zL hsy
        clear hsy
        have HA:=zL hall
        clear hall
        by_cases hlt:k<nf
        · obtain⟨x,hx⟩:∃x,s.fr[k]? =some x:=⟨s.fr[k]'(by rw[HNF.out];exact hlt),zM _⟩
          obtain⟨a,P0,c0,P1,c1,rfl,r2,r3⟩:=frm_len HSF.out hx
          obtain⟨m0,m1⟩:=HZF.out x (zT hx)
          have HXX:=zL hx
          obtain⟨l0,e0⟩:∃l,x.locs.length=l:=⟨_,rfl⟩
          obtain⟨l1,e1⟩:∃l,x.stk.length=l:=⟨_,rfl⟩
          rw[e0] at m0 r2
          rw[e1] at m1 r3
          have z2:=(HBW.out.cell (zW w _ r2)).trans r2
          have z3:=(HBW.out.cell (zW w _ r3)).trans r3
          have k0:(0:Int)≤(k:Int):=by omega
          have k1:(k:Int)<(nf:Int):=by omega
          have hkM:k*2000000000000000≤600000000000000000:=by omega
          have w1:IntKind.i64.wrap ((y:Int)+l0)=y+l0:=jE (by omega) (by omega)
          have w2:IntKind.i64.wrap ((y:Int)+l0+l1)=y+l0+l1:=jE (by omega) (by omega)
          have E0:=zL e0
          have E1:=zL e1
          clear hx r2 r3 e0 e1
          go_wp2_with fail
          go_quiet (fail)
          go_wp2_with fail
          refine⟨⟨k+1,_,y+l0+l1,by omega,by omega,by omega,by rw[qCS HXX.out,E0.out,E1.out];have:=HSY.out;omega,fun o ho=> ?_,by simp,by simp,rfl⟩,by simp[intOf];omega⟩
          rcases jt HXX.out ho with q|rfl
          · have:=HA.out o q;omega
          · have:=E0.out;have:=E1.out;omega
        · have ek:nf=k:=by omega
          subst ek
          clear hlt
          have HA3:Hid (∀o∈s.fr,o.locs.length≤y∧o.stk.length≤y):=(by have:=HA.out;rw[zU (by rw[HNF.out];exact zQ _)] at this;exact this)
          go_wp2_with fail
          go_ret
          have hbb:smB s=decide ((y:Int)<3000):=by
           have h1:=HSZ.out
           have h2:=HSY.out
           rw[zU (by rw[HNO.out];exact zQ _)] at h1
           rw[zU (by rw[HNF.out];exact zQ _)] at h2
           have h3:=EZ.out
           rw[smB,HNF.out,HNO.out,HNH.out,h3,decide_eq_true hz0,Bool.true_and,←h1,←h2]
           exact decide_eq_decide.2 (by omega)
          refine⟨⟨by rw[hbb];rfl,fun h=> ?_⟩,HBW.out.trans ((zm _ _).mono hW0)⟩
          have hy:y<3000:=by rw[hbb] at h;have:=of_decide_eq_true h;omega
          exact⟨by rw[HNF.out];omega,by rw[HNO.out];omega,by rw[HNH.out];omega,fun f hf=>by have:=HA3.out f hf;exact⟨by omega,by omega⟩,fun o ho=>by have:=HA2.out o ho;exact⟨by omega,by omega⟩⟩
def SameK (u v:Value):Prop:=v=u∨∃k x y,u= .int k x∧v= .int k y
theorem qA1 {w:World} {p:Addr} {v:Value} (h:w.cell? p=some v):p.spot=none:=by
 unfold World.cell? at h
 split at h
 · split at h
   · cases h
   · rename_i q;simpa using q
 · cases h
theorem qBH {w:World} {p q:Addr} {u v z:Value} (h:w.cell? q=some v) (hp:w.cell? p=some z):(q=p∧(w.setCell p u).cell? q=some u)∨(w.setCell p u).cell? q=some v:=by
 have sp:=qA1 hp
 have sq:=qA1 h
 obtain⟨b,i,s⟩:=p
 obtain⟨c,j,t⟩:=q
 simp only at sp sq
 subst sp sq
 by_cases hb:c=b
 · subst hb
   unfold World.cell? at h hp
   simp only at h hp
   split at h
   · rename_i cs e f hh
     rw[hh] at hp
     simp at h hp
     by_cases hj:j=i
     · subst hj
       refine .inl ⟨rfl,?_⟩
       have hlt:=(Array.getElem?_eq_some_iff.1 h).1
       simp[World.cell?,World.setCell,Array.getElem?_modify,hh,hlt]
     · refine .inr ?_
       simp[World.cell?,World.setCell,Array.getElem?_modify,hh,Array.getElem?_setIfInBounds_ne (Ne.symm hj),h]
   · cases h
 · refine .inr ?_
   rw[←h]
   exact zZ (a:=⟨c,j,none⟩) (zX w ⟨b,i,none⟩ u c hb)
theorem qAj (w:World) (p q:Addr) (u:Value):(w.setCell p u).frozen? q=w.frozen? q:=by
 by_cases hb:q.block=p.block
 · unfold World.frozen? World.setCell
   simp only[Array.getElem?_modify,hb]
   cases hh:w.heap[p.block]? with
   |none=>simp
   |some o=>cases o<;>simp
 · exact World.frozen?_of_block (zX w p u q.block hb)
structure Tw (B:Nat) (w w':World):Prop where
 below:Below B w w'
 size:w'.heap.size=w.heap.size
 cell:∀p v,w.cell? p=some v→∃v',w'.cell? p=some v'∧SameK v v'
 froz:∀p,w'.frozen? p=w.frozen? p
theorem Tw.refl (B:Nat) (w:World):Tw B w w:=⟨zS _ _,rfl,fun p v h=>⟨v,h,.inl rfl⟩,fun _=>rfl⟩
theorem Tw.num {B:Nat} {w w':World} (h:Tw B w w') {p:Addr} {k:IntKind} {x:Int} (hp:w.cell? p=some (.int k x)):∃y,w'.cell? p=some (.int k y):=by
 obtain⟨v',h1,h2⟩:=h.cell p _ hp
 rcases h2 with rfl|⟨k',x',y',e1,rfl⟩
 · exact⟨x,h1⟩
 · injection e1 with e1 e2
   subst e1
   exact⟨y',h1⟩
theorem Tw.sl {B:Nat} {w w':World} (h:Tw B w w') {p:Addr} {A:Option Addr} {n c:Nat} (hp:w.cell? p=some (.slice A n c)):w'.cell? p=some (.slice A n c):=by
 obtain⟨v',h1,h2⟩:=h.cell p _ hp
 rcases h2 with rfl|⟨k',x',y',e1,rfl⟩
 · exact h1
 · cases e1
theorem Tw.set {B:Nat} {w w':World} (h:Tw B w w') {p:Addr} {k:IntKind} {x:Int} (hp:w'.cell? p=some (.int k x)) (hb:B≤p.block) (y:Int):Tw B w (w'.setCell p (.int k y)):=by
 refine⟨h.below.setCell hb _,by simp[World.setCell,h.size],fun q v hq=> ?_,fun q=>(qAj _ _ _ _).trans (h.froz q)⟩
 obtain⟨v',h1,h2⟩:=h.cell q v hq
 rcases qBH (u:= .int k y) h1 hp with⟨rfl,h3⟩|h3
 · refine⟨_,h3,?_⟩
   rw[hp] at h1
   injection h1 with h1
   subst h1
   rcases h2 with h2|⟨k',x',y',e1,e2⟩
   · exact .inr ⟨k,x,y,h2.symm,rfl⟩
   · injection e2 with e2 e3
     subst e2
     exact .inr ⟨_,_,y,e1,rfl⟩
 · exact⟨v',h3,h2⟩
def C4 (b:Nat) (v0 v1 v2 v3:Value) (w:World):Prop:=w.cell? ⟨b,0,none⟩=some v0∧w.cell? ⟨b,1,none⟩=some v1∧w.cell? ⟨b,2,none⟩=some v2∧w.cell? ⟨b,3,none⟩=some v3
theorem C4.below {b B:Nat} {v0 v1 v2 v3:Value} {w w':World} (h:C4 b v0 v1 v2 v3 w) (hb:Below B w w') (hB:b<B):C4 b v0 v1 v2 v3 w':=by
 have e:∀i u,w.cell? ⟨b,i,none⟩=some u→w'.cell? ⟨b,i,none⟩=some u:=fun i u hu=>(hb.cell (p:=⟨b,i,none⟩) hB).trans hu
 exact⟨e _ _ h.1,e _ _ h.2.1,e _ _ h.2.2.1,e _ _ h.2.2.2⟩
def C7 (b:Nat) (v0 v1 v2 v3 v4 v5 v6:Value) (w:World):Prop:=w.cell? ⟨b,0,none⟩=some v0∧w.cell? ⟨b,1,none⟩=some v1∧w.cell? ⟨b,2,none⟩=some v2∧w.cell? ⟨b,3,none⟩=some v3∧w.cell? ⟨b,4,none⟩=some v4∧w.cell? ⟨b,5,none⟩=some v5∧w.cell? ⟨b,6,none⟩=some v6
theorem C7.below {b B:Nat} {v0 v1 v2 v3 v4 v5 v6:Value} {w w':World} (h:C7 b v0 v1 v2 v3 v4 v5 v6 w) (hb:Below B w w') (hB:b<B):C7 b v0 v1 v2 v3 v4 v5 v6 w':=by
 have e:∀i u,w.cell? ⟨b,i,none⟩=some u→w'.cell? ⟨b,i,none⟩=some u:=fun i u hu=>(hb.cell (p:=⟨b,i,none⟩) hB).trans hu
 exact⟨e _ _ h.1,e _ _ h.2.1,e _ _ h.2.2.1,e _ _ h.2.2.2.1,e _ _ h.2.2.2.2.1,e _ _ h.2.2.2.2.2.1,e _ _ h.2.2.2.2.2.2⟩
def argN (op:Int):Int:=
 if op=29∨op=30 then 2
 else if op=0∨op=1∨op=3∨op=4∨op=23∨op=24∨op=25∨op=27∨op=28 then 1
 else if op<0∨42≤op then -1 else 0
theorem qCD (op:Int):argN op= -1∨argN op=0∨argN op=1∨argN op=2:=by
 unfold argN
 repeat' split
 all_goals simp
theorem argN_op (op:Int) (h:0≤argN op):0≤op∧op<42:=by
 unfold argN at h
 repeat' split at h
 all_goals omega
def fitN (n a b:Int):Bool:=decide (0≤a∧a≤(if 0<n then 255 else 0)∧0≤b∧b≤(if 1<n then 255 else 0))
def goodI (op a b:Int):Bool:=decide (0≤argN op) && fitN (argN op) a b
def bodyB (n:Int) (a b:Nat):List Nat:=(if 0<n then vb a else [])++(if 1<n then vb b else [])
def insB (op a b:Int):List Nat:=if goodI op a b=true then op.toNat::bodyB (argN op) a.toNat b.toNat else []
theorem zv {op a b:Int} (h:goodI op a b=true):∃o x y:Nat,op=(o:Int)∧a=(x:Int)∧b=(y:Int)∧o<42∧x≤255∧y≤255∧0≤argN op∧(¬0<argN op→x=0)∧(¬1<argN op→y=0):=by
 unfold goodI fitN at h
 simp only[Bool.and_eq_true,decide_eq_true_eq] at h
 obtain⟨h0,h1,h2,h3,h4⟩:=h
 have:=argN_op op h0
 refine⟨op.toNat,a.toNat,b.toNat,by omega,by omega,by omega,by omega,?_,?_,h0,fun hn=> ?_,fun hn=> ?_⟩
 · split at h2<;>omega
 · split at h4<;>omega
 · rw[if_neg hn] at h2;omega
 · rw[if_neg hn] at h4;omega
theorem jV {o x y:Nat} (h:goodI o x y=true):insB o x y=o::bodyB (argN o) x y:=by
 unfold insB
 rw[if_pos h]
 simp
theorem qAJ {op a b:Int} (h:¬goodI op a b=true):insB op a b=[]:=by
 unfold insB
 rw[if_neg h]
theorem jg (x:Nat) (h:x≤255):(vb x).length≤2:=jL 1 x (by omega)
theorem qCz (n:Int) (x y:Nat) (hx:x≤255) (hy:y≤255):(bodyB n x y).length≤4:=by
 have h1:=jg x hx
 have h2:=jg y hy
 unfold bodyB
 split<;>split<;>simp<;>omega
theorem qDL (op a b:Int):(insB op a b).length≤5:=by
 by_cases h:goodI op a b=true
 · obtain⟨o,x,y,rfl,rfl,rfl,_,hx,hy,_⟩:=zv h
   rw[jV h]
   have:=qCz (argN o) x y hx hy
   simp
   omega
 · rw[qAJ h];simp
theorem qDK {op a b:Int} (h:goodI op a b=true):0<(insB op a b).length:=by
 obtain⟨o,x,y,rfl,rfl,rfl,ho,hx,hy,_⟩:=zv h
 rw[jV h]
 simp
def HasI (xs:List Nat):Prop:=∃(o x y:Nat) (rest:List Nat),goodI o x y=true∧xs=insB o x y++rest
def pt (x:List Nat):List Nat:=vb x.length++x
def pts (xss:List (List Nat)):List Nat:=(xss.map pt).flatten
def joinB (xss:List (List Nat)):List Nat:=vb xss.length++pts xss
theorem qBU (x:List Nat) (r:List (List Nat)):pts (x::r)=pt x++pts r:=by simp[pts]
theorem pts_app (a b:List (List Nat)):pts (a++b)=pts a++pts b:=by simp[pts]
theorem qDC (a:List (List Nat)) (x:List Nat):pts (a++[x])=pts a++pt x:=by simp[pts]
theorem qAG (x:List Nat):(pt x).length=(vb x.length).length+x.length:=by simp[pt]
theorem qDB (xss:List (List Nat)) (k:Nat) (h:k<xss.length):pts (xss.take (k+1))=pts (xss.take k)++pt (xss[k]?.getD []):=by
 rw[za h,qDC]
 simp[h]
theorem pts_le (xss:List (List Nat)) (k:Nat):(pts (xss.take k)).length≤(pts xss).length:=by
 conv=>rhs;rw[←List.take_append_drop k xss,pts_app,List.length_append]
 omega
theorem qDD (xss:List (List Nat)):xss.length≤(pts xss).length:=by
 induction xss with
 |nil=>simp
 |cons x r ih=>
  rw[qBU,List.length_append,qAG,List.length_cons]
  have:=qBr x.length
  omega
theorem qCX (xss:List (List Nat)) (M:Nat) (hM:M<B64) (h:∀j,j<xss.length→(xss[j]?.getD []).length≤M):(pts xss).length≤xss.length*(10+M):=by
 induction xss with
 |nil=>simp[pts]
 |cons x r ih=>
  have h0:=h 0 (by simp)
  simp at h0
  have h1:=ih fun j hj=>by have:=h (j+1) qT;simpa using this
  have h2:=jL 9 x.length (by unfold B64 at hM;omega)
  rw[qBU,List.length_append,qAG,List.length_cons,Nat.add_mul]
  omega
theorem jK (xss:List (List Nat)):(joinB xss).length=(vb xss.length).length+(pts xss).length:=by simp[joinB]
theorem qBd (xss:List (List Nat)) (M:Nat) (hM:M<B64) (hn:xss.length<B64) (h:∀j,j<xss.length→(xss[j]?.getD []).length≤M):(joinB xss).length≤10+xss.length*(10+M):=by
 have h1:=qCX xss M hM h
 have h2:=jL 9 xss.length (by unfold B64 at hn;omega)
 rw[jK]
 omega
def HasPart (rest:List Nat) (m j:Nat):Prop:=IsVar rest m j∧j+m≤rest.length
def Body (bs:List Nat) (n:Nat) (xss:List (List Nat)):Prop:=xss.length=n∧bs=pts xss
def IsJoin (xs:List Nat) (most:Int) (xss:List (List Nat)):Prop:=xs=joinB xss∧(xss.length:Int)≤most
def refB (k:Int):Bool:=k==2 || k==3 || k==4 || k==6 || k==7
def goodB (k n r:Int):Bool:=if k=1∨k=2∨k=3∨k=7 then n==0 else if k=4 then decide (0≤n∧n<r) else if k=5 then decide (0≤n∧n<4) else false
def subB (a b c d:Int):Bool:=(a==c && b==d) || c==8 || (refB a && refB c && (a==6 || c==7))
def joinK (a b c d:Int):Int:=if subB a b c d then c else if subB c d a b then a else if refB a && refB c then 7 else 8
def joinN (a b c d:Int):Int:=if subB a b c d then d else if subB c d a b then b else 0
theorem or128 (u:Nat):bits .or .u8 ((u:Int) % 256) 128=((u % 128+128:Nat):Int):=by
 have h:=u8_or_nat (u % 256) 128 (by omega) (by omega)
 have h3:(u % 256) ||| 128=u % 128+128:=by
  have e:u % 256=u % 128∨u % 256=128+u % 128:=by omega
  have j:128 ||| u % 128=128+u % 128:=nat_join 7 128 (u % 128) (by omega) (by omega)
  rcases e with e|e
  · rw[e,Nat.or_comm,j];omega
  · rw[e,←j,Nat.or_assoc,Nat.or_comm (u % 128),←Nat.or_assoc,Nat.or_self,j];omega
 rw[h3] at h
 rw[←h]
 congr 1
theorem zr (v:Nat) (w:World) (hv:v<B64):
 Calls Try.prog 71 #[.int .u64 (v:Nat)] w fun e w'=>∃u,e= .returned u∧w'.ownsRow w.heap.size 5 1 u (vb v).length (Bs (vb v))∧Below w.heap.size w w':=by
 have HV0:=hv
 go_enter Try.func71,Try.ntmps71
 go_wp2
 go_loopw [0,3] (fun x o wr=>∃(u:Nat) (pre:List Nat),x= .int .u64 (u:Nat)∧wr.ownsRow w.heap.size 5 1 o pre.length (Bs pre)∧vb v=pre++vb u∧u<B64∧Below w.heap.size w wr) (fun x _ _=>(intOf x).toNat)
 case atStart=>exact⟨v,[],rfl,World.ownsRow_nil _ _ _ _,by simp,hv,zS _ _⟩
 case round=>
  obtain⟨u,pre,rfl,hown,hvb,hu,hbel⟩:=hrel
  have HV:=zL hvb
  have HO:=zL hown
  have HU:=zL hu
  clear hvb hown hu hv
  have hlen:pre.length+(vb u).length≤10:=by
   have h1:=jL 9 v (by unfold B64 at HV0;omega)
   rw[HV.out] at h1
   simpa using h1
  have hpos:=qBr u
  by_cases hlt:u<128
  · have h1:(decide ((128:Int)≤(u:Int)))=false:=by simp;omega
    go_wp2_with (at_builtin
                 refine zg _ rfl (.tmp 14) (.tmp 17) rfl w.heap.size u3 pre.length pre rfl (HO.out.alloc _) (some ⟨wr.heap.size,0,none⟩) 1 1 [u] rfl rfl (·=wr.heap.size) (qCN wr _ u rfl) (by omega) (by have:=hbel.size;simp;omega) ?_
                 intro v1 w1 hown1 hg1 _)
    go_ret
    refine⟨v1,rfl,?_,(hbel.alloc hbel.size _).grown hg1 (by have:=hbel.size;simp;omega) (fun k hk=>(HO.out.lt k hk).1)⟩
    rw[HV.out,j8 u hlt]
    simpa using hown1
  · have h1:(decide ((128:Int)≤(u:Int)))=true:=by simp;omega
    go_wp2_with (at_builtin
                 refine zg _ rfl (.tmp 6) (.tmp 10) rfl w.heap.size u3 pre.length pre rfl (HO.out.alloc _) (some ⟨wr.heap.size,0,none⟩) 1 1 [u % 128+128] rfl rfl (·=wr.heap.size) (qCN wr _ (u % 128+128) (or128 u)) (by omega) (by have:=hbel.size;simp;omega) ?_
                 intro v1 w1 hown1 hg1 _)
    go_roundw
    case rel=>
     refine⟨u / 128,pre++[u % 128+128],by simp,by simpa using hown1,?_,by have:=HU.out;omega,(hbel.alloc hbel.size _).grown hg1 (by have:=hbel.size;simp;omega) (fun k hk=>(HO.out.lt k hk).1)⟩
     rw[HV.out,qBs u hlt]
     simp
    case measure=>simp[intOf];omega
theorem jO {w:World} {b b':Nat} {v:Value} {n:Nat} {xs:List Value} (h:w.ownsRow b 5 1 v n xs) (hb:b'≤b):w.ownsRow b' 5 1 v n xs:=by
 refine⟨h.1,?_⟩
 rcases h.2 with h|⟨g',cap,cur,e,hb2,rest⟩
 · exact .inl h
 · exact .inr ⟨g',cap,cur,e,zp hb hb2,rest⟩
theorem own_nil (w:World) (b:Nat):w.ownsRow b 5 1 (.slice none 0 0) 0 (Bs []):=⟨rfl,.inl ⟨rfl,rfl⟩⟩
def typB (k n:Int):List Nat:=vb k.toNat++vb n.toNat
theorem qC3 (k n:Int) (hk:k≤9223372036854775807) (hn:n≤9223372036854775807):(typB k n).length≤20:=by
 have h1:=jL 9 k.toNat qT
 have h2:=jL 9 n.toNat qT
 simp[typB]
 omega
theorem js (n:Int) (w:World) (h: -9223372036854775808≤n∧n≤9223372036854775807):
 Calls Try.prog 78 #[.int .i64 n] w fun e w'=>∃u,e= .returned u∧w'.ownsRow w.heap.size 5 1 u (vb n.toNat).length (Bs (vb n.toNat))∧Below w.heap.size w w':=by
 by_cases h0:0≤n
 · obtain⟨m,rfl⟩:∃m:Nat,n=(m:Int):=⟨n.toNat,by omega⟩
   have hm:m<B64:=by unfold B64;omega
   go_enter Try.func78,Try.ntmps78
   go_wp2_with (first|(go_at_call 71;refine(zr m _ hm).mono ?_;rintro e w1 ⟨u,rfl,hown,hb⟩))
   go_ret
   exact⟨_,rfl,hown,hb⟩
 · go_enter Try.func78,Try.ntmps78
   go_wp2_with (first|(go_at_call 71;refine(zr 0 _ qY).mono ?_;rintro e w1 ⟨u,rfl,hown,hb⟩))
   go_ret
   have e:n.toNat=0:=by omega
   rw[e]
   exact⟨_,rfl,hown,hb⟩
theorem kput (k n:Int) (w:World) (hk: -9223372036854775808≤k∧k≤9223372036854775807) (hn: -9223372036854775808≤n∧n≤9223372036854775807):
 Calls Try.prog 73 #[.agg #[.int .i64 k,.int .i64 n]] w fun e w'=>∃u,e= .returned u∧w'.ownsRow w.heap.size 5 1 u (typB k n).length (Bs (typB k n))∧Below w.heap.size w w':=by
 have PK:=zL (fun w=>js k w hk)
 have PN:=zL (fun w=>js n w hn)
 have hl:(vb k.toNat).length+(vb n.toNat).length≤140737488355328:=by
  have:=qC3 k n hk.2 hn.2
  simp[typB] at this
  omega
 clear hk hn
 go_enter Try.func73,Try.ntmps73
 go_wp2_with fail
 refine zi fun W hW=> ?_
 have c0:W.cell? ⟨w.heap.size,0,none⟩=some (.int .i64 k):=by rw[hW];simp[go_sem]
 have c1:W.cell? ⟨w.heap.size,1,none⟩=some (.int .i64 n):=by rw[hW];simp[go_sem]
 have HB0:Hid (Below w.heap.size w W):=by
  show Below w.heap.size w W
  rw[hW]
  exact(zS _ _).alloc (zQ _) _
 have hs:w.heap.size<W.heap.size:=by rw[hW];simp
 clear hW
 have C1:=zL c1
 go_region_law (first
  |(with_reducible refine qCF (.tmp 5) (.tmp 8) 35 ?_
    refine jh _ rfl (.tmp 5) (.tmp 8) rfl W.heap.size u1 (vb k.toNat).length (vb k.toNat) rfl HO1.out A2 (vb n.toNat).length c2 (vb n.toNat) rfl rfl _ HY2.out hl HS2.out ?_
    intro v3 w3 hown3 hg3 _
    have HO3:=zL hown3
    have HB3:=zL (HB2.out.grown hg3 HS2.out (fun i hi=>(HO1.out.lt i hi).1))
    clear hown3 hg3)
  |(with_reducible refine jo 78 ?_
    go_simp
    go_at_call 78
    with_reducible refine(PK.out _).mono ?_
    rintro e w1 ⟨u1,rfl,hown1,hb1⟩
    have HP1:=zL hown1
    have HB1:=zL (hb1.mono (zQ W.heap.size))
    have hcell1:w1.cell? ⟨w.heap.size,1,none⟩=some (.int .i64 n):=(hb1.cell (p:=⟨w.heap.size,1,none⟩) hs).trans C1.out
    clear hown1 hb1)
  |(with_reducible refine jo 78 ?_
    go_simp
    go_at_call 78
    with_reducible refine(PN.out _).mono ?_
    rintro e w2 ⟨u2,rfl,hown2,hb2⟩
    obtain⟨A2,c2,rfl,-,-,-,hY2⟩:=zj hown2
    have HY2:=zL hY2
    have HB2:=zL (HB1.out.trans (hb2.mono HB1.out.size))
    have HO1:=zL (zo HP1.out hb2 (zQ _))
    have HS2:=zL HB2.out.size
    clear hown2 hY2 hb2))
 all_goals
  go_wp2_with fail
  go_ret
  refine⟨_,rfl,?_,HB0.out.drew.trans (HB3.out.mono HB0.out.size)⟩
  rw[show(typB k n).length=(vb k.toNat).length+(vb n.toNat).length by simp[typB]]
  exact jO HO3.out HB0.out.size
def le:List Nat→Nat
 |[]=>0
 |x::xs=>x+256*le xs
def fb (v m:Nat):List Nat:=(List.range m).map fun j=>v / 256 ^ j % 256
theorem qA0 (v m:Nat):(fb v m).length=m:=by simp[fb]
def wid (n:Int):Nat:=min n.toNat 8
theorem wid_le (n:Int):wid n≤8:=by unfold wid;omega
theorem qCQ (n:Int) (w:World):Calls Try.prog 82 #[.int .i64 n] w fun e w'=>e= .returned (.int .i64 (wid n:Nat))∧w=w':=by
 go_enter Try.func82,Try.ntmps82
 go_wp2
 all_goals
  go_ret
  exact⟨ret_int (by unfold wid;omega),rfl⟩
def fz (v m i:Nat):List Nat:=(List.range m).map fun j=>if j<i then v / 256 ^ j % 256 else 0
theorem qCq (v m i:Nat):(fz v m i).length=m:=by simp[fz]
theorem fz_all (v m:Nat):fz v m m=fb v m:=by
 unfold fz fb
 refine List.map_congr_left fun j hj=> ?_
 rw[if_pos (List.mem_range.1 hj)]
theorem fz_zero (v m:Nat):Bs (fz v m 0)=List.replicate m (.int .u8 0):=by
 unfold Bs fz
 rw[List.eq_replicate_iff]
 refine⟨by simp,fun b hb=> ?_⟩
 simp at hb
 exact hb.2.symm
theorem fz_set (v m i:Nat):(Bs (fz v m i)).set i (.int .u8 ((v / 256 ^ i % 256:Nat):Int))=Bs (fz v m (i+1)):=by
 apply List.ext_getElem
 · simp[Bs,fz]
 · intro j h1 h2
   simp only[Bs,fz,List.getElem_set,List.getElem_map,List.getElem_range]
   by_cases hij:i=j
   · subst hij;simp
   · rw[if_neg hij]
     by_cases hj:j<i
     · rw[if_pos hj,if_pos (by omega)]
     · rw[if_neg hj,if_neg (by omega)]
theorem qC5 (v k:Nat):(v:Int) / 2 ^ (8*k) % 256=((v / 256 ^ k % 256:Nat):Int):=by
 have:(256:Nat) ^ k=2 ^ (8*k):=by rw[Nat.pow_mul]
 rw[this]
 simp
theorem jq (v:Nat) (n:Int) (w:World) (hv:v<B64):
 Calls Try.prog 77 #[.int .u64 (v:Nat),.int .i64 n] w fun e w'=>∃u,e= .returned u∧w'.ownsRow w.heap.size 5 1 u (wid n) (Bs (fb v (wid n)))∧Below w.heap.size w w':=by
 obtain⟨i0,hi0,hz0,hz1,hz2⟩:=info_parts qAU
 have hw8:=wid_le n
 have HV:=zL hv
 clear hv
 go_enter Try.func77,Try.ntmps77
 go_wp2_with fail
 refine(qCQ n w).mono ?_
 rintro e w' ⟨rfl,rfl⟩
 obtain⟨m,hm⟩:∃m,wid n=m:=⟨_,rfl⟩
 rw[hm] at hw8⊢
 have HM:=zL hm
 clear hm
 have hby:i0.bytes*m≤281474976710656:=by rw[hz2];omega
 have hml:m≤maxLen:=by simp[maxLen];omega
 go_wp2_with (at_make
              refine wpList_make_full _ rfl (.tmp 8) (.tmp 8) 35 rfl w.heap.size 5 i0 (.int .u8 0) 1 Try.underlying35 hi0 hz0 hz1 .i64 .i64 m m m rfl rfl rfl rfl hby hml (zQ _) ?_
              intro w1 hown1 hg1)
 have hown2:w1.ownsRow w.heap.size 5 1 (.slice (some ⟨w.heap.size,0,none⟩) m m) m (Bs (fz v m 0)):=by
  rw[fz_zero]
  have:=hown1
  rw[Nat.mul_one] at this
  have e:(madeCells (Value.int .u8 0).cells m).toList=List.replicate m (.int .u8 0):=toList_madeCells_one _ _
  rw[e] at this
  exact this
 have hb1:Below w.heap.size w w1:=(zS _ w).grown hg1 (zQ _) (fun k hk=>by cases hk)
 clear hown1 hg1
 go_loopw [12] (fun i wr=>∃k:Nat,k≤m∧i= .int .i64 (k:Nat)∧wr.ownsRow w.heap.size 5 1 (.slice (some ⟨w.heap.size,0,none⟩) m m) m (Bs (fz v m k))∧Below w.heap.size w wr) (fun i _=>m-(intOf i).toNat)
 case atStart=>exact⟨0,zY _,rfl,hown2,hb1⟩
 case round=>
  obtain⟨k,hk,rfl,hown,hbel⟩:=hrel
  have HO:=zL hown
  clear hown2 hb1
  by_cases hlt:k<m
  · have hc:=hown.cellAt k (by omega)
    rw[qBJ _ _ (by rw[qCq];exact hlt)] at hc
    have hf:=hown.frozenAt k
    clear hown
    go_wp2
    have hst:=HO.out.stored k (.int .u8 ((v / 256 ^ k % 256:Nat):Int))
    rw[fz_set] at hst
    rw[qC5 v k]
    exact⟨⟨k+1,by omega,by simp,hst.1,hbel.setCell (p:=⟨w.heap.size,k,none⟩) (zQ _) _⟩,by simp[intOf];omega⟩
  · obtain rfl:k=m:=by omega
    clear hown
    go_wp2
    go_ret
    refine⟨_,rfl,?_,hbel⟩
    rw[HM.out,←fz_all]
    exact HO.out
abbrev Typ:=Int×Int
structure Fn where
 args:List Typ
 ret:Typ
 locs:List Typ
 code:List Ins
structure Imp where
 args:List Typ
 ret:Typ
structure Mod where
 recs:List (List Typ)
 funcs:List Fn
 imps:List Imp
 ints:List Nat
 texts:List (List Nat)
noncomputable def eqB {α:Type} (a b:α):Bool:= @decide (a=b) (Classical.propDecidable _)
theorem jD {α:Type} {a b:α}:eqB a b=true↔a=b:=by
 unfold eqB
 exact @decide_eq_true_iff _ (Classical.propDecidable _)
theorem z9 {α:Type} (a:α):eqB a a=true:=jD.2 rfl
theorem jz {α:Type} {a b:α} (h:a≠b):eqB a b=false:=by
 cases e:eqB a b
 · rfl
 · exact absurd (jD.1 e) h
theorem qAL {α:Type} {a b:α} (h:eqB a b=false):a≠b:=fun e=>by rw[e,z9] at h;cases h
def tB (t:Typ):List Nat:=typB t.1 t.2
def iB (t:Ins):List Nat:=insB t.1 t.2.1 t.2.2
def lB {α:Type} (f:α→List Nat) (xs:List α):List Nat:=vb xs.length++(xs.map f).flatten
def fnB (f:Fn):List Nat:=lB tB f.args++(tB f.ret++(lB tB f.locs++lB iB f.code))
def impB (i:Imp):List Nat:=lB tB i.args++tB i.ret
def numB (n:Nat):List Nat:=fb n 8
def partsB (m:Mod):List (List Nat):=[lB (lB tB) m.recs,lB fnB m.funcs,lB impB m.imps,lB numB m.ints,lB pt m.texts]
def modB (m:Mod):List Nat:=joinB (partsB m)
def goodT (r:Int) (t:Typ):Bool:=goodB t.1 t.2 r
def goodIn (t:Ins):Bool:=goodI t.1 t.2.1 t.2.2
def witB {α:Type} (lo hi:Int) (g:α→Bool) (xs:List α):Bool:=decide (lo≤(xs.length:Int)∧(xs.length:Int)≤hi) && xs.all g
def recOk (r:Int) (ts:List Typ):Bool:=witB 0 6 (goodT r) ts
def fnOk (r:Int) (f:Fn):Bool:=witB 0 4 (goodT r) f.args && goodT r f.ret && witB 0 (8-(f.args.length:Int)) (goodT r) f.locs && witB 1 64 goodIn f.code
def impOk (r:Int) (i:Imp):Bool:=witB 0 4 (goodT r) i.args && goodT r i.ret
def shortB (s:List Nat):Bool:=decide (s.length≤32)
def fitB (m:Mod):Bool:=witB 0 8 (recOk m.recs.length) m.recs && witB 1 8 (fnOk m.recs.length) m.funcs && witB 0 8 (impOk m.recs.length) m.imps && decide (m.ints.length≤16) && witB 0 16 shortB m.texts
theorem j7 {α:Type} {lo hi:Int} {g:α→Bool} {xs:List α}:witB lo hi g xs=true↔(lo≤(xs.length:Int)∧(xs.length:Int)≤hi)∧∀x∈xs,g x=true:=by simp[witB]
def PF {α:Type} (f:α→List Nat) (g:α→Prop):Prop:=∀x y r s,g x→g y→f x++r=f y++s→x=y∧r=s
theorem PF.row {α:Type} {f:α→List Nat} {g:α→Prop} (h:PF f g):∀(xs ys:List α) (r s:List Nat),xs.length=ys.length→(∀x∈xs,g x)→(∀y∈ys,g y)→(xs.map f).flatten++r=(ys.map f).flatten++s→xs=ys∧r=s:=by
 intro xs
 induction xs with
 |nil=>
  intro ys r s hl _ _ e
  cases ys with
  |nil=>exact⟨rfl,by simpa using e⟩
  |cons y ys=>simp at hl
 |cons x xs ih=>
  intro ys r s hl hx hy e
  cases ys with
  |nil=>simp at hl
  |cons y ys=>
   simp only[List.map_cons,List.flatten_cons,List.append_assoc] at e
   obtain⟨rfl,e2⟩:=h x y _ _ (hx x (by simp)) (hy y (by simp)) e
   obtain⟨rfl,rfl⟩:=ih ys r s (by simpa using hl) (fun z hz=>hx z (by simp[hz])) (fun z hz=>hy z (by simp[hz])) e2
   exact⟨rfl,rfl⟩
def HasN {α:Type} (f:α→List Nat) (g:α→Prop) (n:Nat) (xs:List Nat):Prop:=∃(ys:List α) (rest:List Nat),ys.length=n∧(∀y∈ys,g y)∧xs=(ys.map f).flatten++rest
def Has {α:Type} (f:α→List Nat) (g:α→Prop) (xs:List Nat):Prop:=∃(y:α) (rest:List Nat),g y∧xs=f y++rest
theorem qCp {r:Int} {t:Typ} (hr:r≤8) (h:goodT r t=true):∃a b:Nat,t=((a:Int),(b:Int))∧a≤8∧b≤255:=by
 obtain⟨k,n⟩:=t
 simp only[goodT,goodB] at h
 split at h
 · rename_i hk
   exact zC
 · split at h
   · exact zC
   · split at h
     · exact zC
     · cases h
theorem qAk {r:Int} {f:Fn} (h:fnOk r f=true):f.args.length≤4∧f.args.length+f.locs.length≤8∧1≤f.code.length∧f.code.length≤64∧(∀t∈f.args,goodT r t=true)∧goodT r f.ret=true∧(∀t∈f.locs,goodT r t=true)∧∀t∈f.code,goodIn t=true:=by
 simp only[fnOk,Bool.and_eq_true,j7] at h
 obtain⟨⟨⟨⟨h1,h2⟩,h3⟩,h4,h5⟩,h6,h7⟩:=h
 exact⟨by omega,by omega,by omega,by omega,h2,h3,h5,h7⟩
theorem qAy {r:Int} {i:Imp} (h:impOk r i=true):i.args.length≤4∧(∀t∈i.args,goodT r t=true)∧goodT r i.ret=true:=by
 simp only[impOk,Bool.and_eq_true,j7] at h
 exact⟨by omega,h.1.2,h.2⟩
theorem qAu {r:Int} {ts:List Typ} (h:recOk r ts=true):ts.length≤6∧∀t∈ts,goodT r t=true:=by
 simp only[recOk,j7] at h
 exact⟨by omega,h.2⟩
theorem jI {α:Type} (f:α→List Nat) (xs:List α) (M:Nat) (h:∀x∈xs,(f x).length≤M) (hl:xs.length<B64):(lB f xs).length≤10+xs.length*M:=by
 have h1:=jL 9 xs.length (by unfold B64 at hl;simp;omega)
 have h2:∀zs:List α,(∀x∈zs,(f x).length≤M)→((zs.map f).flatten).length≤zs.length*M:=by
  intro zs
  induction zs with
  |nil=>simp
  |cons z zs ih=>
   intro hz
   have e1:=hz z (by simp)
   have e2:=ih fun x hx=>hz x (by simp[hx])
   simp only[List.map_cons,List.flatten_cons,List.length_append,List.length_cons,Nat.succ_mul]
   omega
 have h3:=h2 xs h
 simp only[lB,List.length_append]
 omega
theorem qAb {r:Int} {t:Typ} (hr:r≤8) (h:goodT r t=true):(tB t).length≤4:=by
 obtain⟨a,b,rfl,ha,hb⟩:=qCp hr h
 have h1:=jL 1 a qT
 have h2:=jL 1 b qT
 simp[tB,typB]
 omega
theorem qB3 (t:Ins):(iB t).length≤5:=qDL _ _ _
theorem jR {r:Int} {ts:List Typ} (hr:r≤8) (hl:ts.length≤8) (h:∀t∈ts,goodT r t=true):(lB tB ts).length≤42:=by
 have:=jI tB ts 4 (fun t ht=>qAb hr (h t ht)) (by unfold B64;omega)
 omega
theorem fnB_len {r:Int} {f:Fn} (hr:r≤8) (h:fnOk r f=true):(fnB f).length≤500:=by
 obtain⟨a1,a2,a3,a4,a5,a6,a7,a8⟩:=qAk h
 have h1:=jR hr (by omega) a5
 have h2:=qAb hr a6
 have h3:=jR hr (by omega) a7
 have h4:=jI iB f.code 5 (fun t _=>qB3 t) (by unfold B64;omega)
 simp only[fnB,List.length_append]
 omega
theorem qDM {r:Int} {f:Imp} (hr:r≤8) (h:impOk r f=true):(impB f).length≤50:=by
 obtain⟨a1,a2,a3⟩:=qAy h
 have h1:=jR hr (by omega) a2
 have h2:=qAb hr a3
 simp only[impB,List.length_append]
 omega
structure Fit (m:Mod):Prop where
 r8:(m.recs.length:Int)≤8
 recs:∀t∈m.recs,recOk m.recs.length t=true
 f1:1≤m.funcs.length
 f8:m.funcs.length≤8
 funcs:∀f∈m.funcs,fnOk m.recs.length f=true
 i8:m.imps.length≤8
 imps:∀f∈m.imps,impOk m.recs.length f=true
 n16:m.ints.length≤16
 t16:m.texts.length≤16
 texts:∀s∈m.texts,s.length≤32
theorem qAl {m:Mod}:fitB m=true↔Fit m:=by
 simp only[fitB,Bool.and_eq_true,j7,decide_eq_true_eq]
 constructor
 · rintro⟨⟨⟨⟨⟨h1,h2⟩,h3,h4⟩,h5,h6⟩,h7⟩,h8,h9⟩
   exact⟨h1.2,h2,by omega,by omega,h4,by omega,h6,h7,by omega,fun s hs=>by simpa[shortB] using h9 s hs⟩
 · rintro⟨h1,h2,h3,h4,h5,h6,h7,h8,h9,h10⟩
   exact⟨⟨⟨⟨⟨by omega,h2⟩,by omega,h5⟩,by omega,h7⟩,h8⟩,by omega,fun s hs=>by simpa[shortB] using h10 s hs⟩
theorem Fit.parts_len {m:Mod} (h:Fit m):∀j,j<(partsB m).length→((partsB m)[j]?.getD []).length≤5000:=by
 have hB:(64:Nat)<B64:=by unfold B64;omega
 have hr:=h.r8
 have b0:=jI (lB tB) m.recs 42 (fun x hx=>by have:=qAu (h.recs x hx);exact jR h.r8 (by omega) this.2) (by omega)
 have b1:=jI fnB m.funcs 500 (fun x hx=>fnB_len h.r8 (h.funcs x hx)) (by have:=h.f8;omega)
 have b2:=jI impB m.imps 50 (fun x hx=>qDM h.r8 (h.imps x hx)) (by have:=h.i8;omega)
 have b3:=jI numB m.ints 8 (fun x _=>by simp[numB,qA0]) (by have:=h.n16;omega)
 have b4:=jI pt m.texts 42 (fun x hx=>by have h1:=h.texts x hx;have h2:=jL 9 x.length qT;simp[pt];omega) (by have:=h.t16;omega)
 have:=h.f8
 have:=h.i8
 have:=h.n16
 have:=h.t16
 intro j hj
 match j,hj with
 |0,_=>simp[partsB];omega
 |1,_=>simp[partsB];omega
 |2,_=>simp[partsB];omega
 |3,_=>simp[partsB];omega
 |4,_=>simp[partsB];omega
 |j+5,hj=>exact absurd hj (by simp[partsB])
theorem Fit.len {m:Mod} (h:Fit m):(modB m).length≤30000:=by
 have:=qBd (partsB m) 5000 (by unfold B64;omega) (by simp[partsB];unfold B64;omega) h.parts_len
 simp[partsB] at this
 simp[modB,partsB]
 omega
def typL:Lay Typ where
 k:=2
 R _ _ cs t:=cs=[.int .i64 t.1,.int .i64 t.2]∧I64 t.1∧I64 t.2
 len:=by rintro S w cs x ⟨rfl,_⟩;rfl
 keep:=by rintro S w w' cs x h _;exact h
 wide:=by rintro S T w cs x h _;exact h
 one:=by rintro S w cs x ⟨rfl,_⟩ u hu;simp at hu;rcases hu with rfl|rfl<;>rfl
def insL:Lay Ins where
 k:=3
 R _ _ cs t:=cs=[.int .i64 t.1,.int .i64 t.2.1,.int .i64 t.2.2]∧I64 t.1∧I64 t.2.1∧I64 t.2.2
 len:=by rintro S w cs x ⟨rfl,_⟩;rfl
 keep:=by rintro S w w' cs x h _;exact h
 wide:=by rintro S T w cs x h _;exact h
 one:=by rintro S w cs x ⟨rfl,_⟩ u hu;simp at hu;rcases hu with rfl|rfl|rfl<;>rfl
def strB (s:ByteArray):List Nat:=s.data.toList.map UInt8.toNat
def strL:Lay (List Nat) where
 k:=1
 R _ _ cs xs:=∃s,cs=[.string s]∧xs=strB s
 len:=by rintro S w cs x ⟨s,rfl,_⟩;rfl
 keep:=by rintro S w w' cs x h _;exact h
 wide:=by rintro S T w cs x h _;exact h
 one:=by rintro S w cs x ⟨s,rfl,_⟩ u hu;simp at hu;subst hu;rfl
abbrev tysL:Lay (List Typ):=slL typL
abbrev codL:Lay (List Ins):=slL insL
def fnL:Lay Fn where
 k:=5
 R S w cs f:=∃v0 v1 v2,cs=[v0,.int .i64 f.ret.1,.int .i64 f.ret.2,v1,v2]∧I64 f.ret.1∧I64 f.ret.2∧tysL.R S w [v0] f.args∧tysL.R S w [v1] f.locs∧codL.R S w [v2] f.code
 len:=by rintro S w cs x ⟨v0,v1,v2,rfl,_⟩;rfl
 keep:=by rintro S w w' cs x ⟨v0,v1,v2,rfl,h1,h2,h3,h4,h5⟩ hk;exact⟨v0,v1,v2,rfl,h1,h2,tysL.keep h3 hk,tysL.keep h4 hk,codL.keep h5 hk⟩
 wide:=by rintro S T w cs x ⟨v0,v1,v2,rfl,h1,h2,h3,h4,h5⟩ hk;exact⟨v0,v1,v2,rfl,h1,h2,tysL.wide h3 hk,tysL.wide h4 hk,codL.wide h5 hk⟩
 one:=by
  rintro S w cs x ⟨v0,v1,v2,rfl,h1,h2,h3,h4,h5⟩ u hu
  simp at hu
  rcases hu with rfl|rfl|rfl|rfl|rfl
  · exact tysL.one h3 _ (by simp)
  · rfl
  · rfl
  · exact tysL.one h4 _ (by simp)
  · exact codL.one h5 _ (by simp)
def impL:Lay Imp where
 k:=3
 R S w cs f:=∃v0,cs=[v0,.int .i64 f.ret.1,.int .i64 f.ret.2]∧I64 f.ret.1∧I64 f.ret.2∧tysL.R S w [v0] f.args
 len:=by rintro S w cs x ⟨v0,rfl,_⟩;rfl
 keep:=by rintro S w w' cs x ⟨v0,rfl,h1,h2,h3⟩ hk;exact⟨v0,rfl,h1,h2,tysL.keep h3 hk⟩
 wide:=by rintro S T w cs x ⟨v0,rfl,h1,h2,h3⟩ hk;exact⟨v0,rfl,h1,h2,tysL.wide h3 hk⟩
 one:=by
  rintro S w cs x ⟨v0,rfl,h1,h2,h3⟩ u hu
  simp at hu
  rcases hu with rfl|rfl|rfl
  · exact tysL.one h3 _ (by simp)
  · rfl
  · rfl
def modL:Lay Mod where
 k:=5
 R S w cs m:=∃v0 v1 v2 v3 v4,cs=[v0,v1,v2,v3,v4]∧(slL tysL).R S w [v0] m.recs∧(slL fnL).R S w [v1] m.funcs∧(slL impL).R S w [v2] m.imps∧(slL numL).R S w [v3] m.ints∧(slL strL).R S w [v4] m.texts
 len:=by rintro S w cs x ⟨v0,v1,v2,v3,v4,rfl,_⟩;rfl
 keep:=by rintro S w w' cs x ⟨v0,v1,v2,v3,v4,rfl,h0,h1,h2,h3,h4⟩ hk;exact⟨v0,v1,v2,v3,v4,rfl,(slL tysL).keep h0 hk,(slL fnL).keep h1 hk,(slL impL).keep h2 hk,(slL numL).keep h3 hk,(slL strL).keep h4 hk⟩
 wide:=by rintro S T w cs x ⟨v0,v1,v2,v3,v4,rfl,h0,h1,h2,h3,h4⟩ hk;exact⟨v0,v1,v2,v3,v4,rfl,(slL tysL).wide h0 hk,(slL fnL).wide h1 hk,(slL impL).wide h2 hk,(slL numL).wide h3 hk,(slL strL).wide h4 hk⟩
 one:=by
  rintro S w cs x ⟨v0,v1,v2,v3,v4,rfl,h0,h1,h2,h3,h4⟩ u hu
  simp at hu
  rcases hu with rfl|rfl|rfl|rfl|rfl
  · exact(slL tysL).one h0 _ (by simp)
  · exact(slL fnL).one h1 _ (by simp)
  · exact(slL impL).one h2 _ (by simp)
  · exact(slL numL).one h3 _ (by simp)
  · exact(slL strL).one h4 _ (by simp)
theorem qAc (s:ByteArray):(strB s).length=s.size:=by simp[strB]
theorem qBt (s:ByteArray):Lib.strCells s=Bs (strB s):=by simp[Lib.strCells,Bs,strB]
def Puts (ys:List Nat) (w:World) (e:Ending) (w':World):Prop:=∃u,e= .returned u∧w'.ownsRow w.heap.size 5 1 u ys.length (Bs ys)∧Below w.heap.size w w'
theorem qAR (w:World) {ops:Array Oper} {rest:List Oper} {o:Oper} {a:Act} {Q:Exit→Act→World→Prop} (hgd:o.guard=none) (sl x:Operand)
 (ho:o.op= .call {callee:= .builtin .append,args:= #[sl,x],argTypes:= #[35,9]})
 (base:Nat) (v:Value) (n:Nat) (xs:List Nat) (hs:a.eval sl=v) (hown:w.ownsRow base 5 1 v n (Bs xs)) (s:ByteArray) (hx:a.eval x= .string s)
 (hbig:n+(strB s).length≤140737488355328) (hbase:base≤w.heap.size)
 (h:∀v' w',w'.ownsRow base 5 1 v' (n+(strB s).length) (Bs (xs++strB s))→w.grownBy w' v.ownBlock→wpList Try.prog ops Q rest (a.put o.dst v') w'):wpList Try.prog ops Q (o::rest) a w:=by
 obtain⟨i0,hi0,hz0,hz1,hz2⟩:=info_parts qAU
 rw[qAc] at hbig h
 refine Lib.wpList_append_own_string _ hgd sl x 35 9 ho base 5 i0 Try.underlying35 Try.underlying9 hi0 hz0 hz1 hz2 v n (Bs xs) hs hown s hx (by simp only[maxLen];omega) hbig hbase ?_
 intro v' w' h1 h2 _
 rw[qBt,←qDV] at h1
 exact h v' w' h1 h2
def C5 (b:Nat) (v0 v1 v2 v3 v4:Value) (w:World):Prop:=w.cell? ⟨b,0,none⟩=some v0∧w.cell? ⟨b,1,none⟩=some v1∧w.cell? ⟨b,2,none⟩=some v2∧w.cell? ⟨b,3,none⟩=some v3∧w.cell? ⟨b,4,none⟩=some v4
theorem C5.below {b B:Nat} {v0 v1 v2 v3 v4:Value} {w w':World} (h:C5 b v0 v1 v2 v3 v4 w) (hb:Below B w w') (hB:b<B):C5 b v0 v1 v2 v3 v4 w':=
 ⟨(hb.cell (p:=⟨b,0,none⟩) hB).trans h.1,(hb.cell (p:=⟨b,1,none⟩) hB).trans h.2.1,(hb.cell (p:=⟨b,2,none⟩) hB).trans h.2.2.1,(hb.cell (p:=⟨b,3,none⟩) hB).trans h.2.2.2.1,(hb.cell (p:=⟨b,4,none⟩) hB).trans h.2.2.2.2⟩
theorem jQ {α:Type} (f:α→List Nat) (xs:List α) (k:Nat) (x:α) (h:xs[k]? =some x):((xs.take (k+1)).map f).flatten=((xs.take k).map f).flatten++f x:=by
 obtain⟨hk,rfl⟩:=zR.1 h
 rw[za hk,List.map_append,List.flatten_append]
 simp
theorem jA {α:Type} (f:α→List Nat) (xs:List α) (k:Nat):((xs.take k).map f).flatten.length≤(xs.map f).flatten.length:=by
 conv=>rhs;rw[←List.take_append_drop k xs,List.map_append,List.flatten_append]
 rw[List.length_append]
 omega
def fn0:Fn:=⟨[],(1,0),[],[(26,0,0)]⟩
theorem qB2 {w w1:World} {cs:List Value} {m:Mod} (h:modL.R (·<w.heap.size) w cs m) (hb:Below w.heap.size w w1):modL.R (·<w1.heap.size) w1 cs m:=
 modL.wide (modL.keep h fun b hb1=>hb.block b hb1) fun _ hb1=>zP hb1 hb.size
theorem qCg {S:Nat→Prop} {w:World} {cs:List Value} {m:Mod} (h:modL.R S w cs m):∃A0 A1 A2 A3 A4 n0 n1 n2 n3 n4 c0 c1 c2 c3 c4,cs=[.slice A0 n0 c0,.slice A1 n1 c1,.slice A2 n2 c2,.slice A3 n3 c3,.slice A4 n4 c4]:=by
 obtain⟨_,_,_,_,_,rfl,⟨A0,d0,e0,-⟩,⟨A1,d1,e1,-⟩,⟨A2,d2,e2,-⟩,⟨A3,d3,e3,-⟩,⟨A4,d4,e4,-⟩⟩:=h
 simp only[List.cons.injEq,and_true] at e0 e1 e2 e3 e4
 subst e0 e1 e2 e3 e4
 exact⟨A0,A1,A2,A3,A4,_,_,_,_,_,d0,d1,d2,d3,d4,rfl⟩
def mE:Mod:=⟨[],[],[],[],[]⟩
def namedB (m:Mod) (f:Fn) (i:Ins):Bool:=
 if i.1=0 then decide (i.2.1<(m.ints.length:Int))
 else if i.1=1 then decide (i.2.1<(m.texts.length:Int))
 else if i.1=3∨i.1=4 then decide (i.2.1<(f.args.length:Int)+(f.locs.length:Int))
 else if i.1=23∨i.1=24 then decide (i.2.1<(f.code.length:Int))
 else if i.1=25 then decide (i.2.1<(m.funcs.length:Int))
 else if i.1=27 then decide (i.2.1<(m.imps.length:Int))
 else if i.1=28 then decide (i.2.1<(m.recs.length:Int))
 else if i.1=29∨i.1=30 then (match m.recs[i.2.1.toNat]? with|some r=>decide (i.2.2<(r.length:Int))|none=>false)
 else true
def hanB (t:Typ):Bool:=decide (t.1=5)
def hostB (t:Typ):Bool:=decide (t.1=1∨t.1=5)
def badFn (m:Mod) (f:Fn):Bool:=f.locs.any hanB || f.code.any fun i=> !namedB m f i
def badImp (i:Imp):Bool:=i.args.any (fun t=> !hostB t) || !hostB i.ret
def badM (m:Mod):Bool:=m.funcs.any (badFn m) || m.imps.any badImp
def checkN (m:Mod):Int:=if fitB m=false then 2 else if badM m=true then 1 else 0
def mainB (m:Mod):Bool:=decide (checkN m=0) && (match m.funcs with|f::_=>decide (f.args.length=0) && decide (f.ret.1=1)|[]=>false)
theorem j9 {m:Mod} (h:fitB m=false):checkN m=2:=by simp[checkN,h]
theorem qCi {m:Mod} (h:checkN m≠0):mainB m=false:=by simp[mainB,h]
theorem qCh {m:Mod} {f:Fn} {fs:List Fn} (h:checkN m=0) (hf:m.funcs=f::fs):mainB m=(decide (f.args.length=0) && decide (f.ret.1=1)):=by simp[mainB,h,hf]
theorem qB9 {m:Mod} (h:checkN m=0):fitB m=true:=by
 cases hf:fitB m
 · rw[j9 hf] at h;cases h
 · rfl
theorem qDR {α:Type} {g:α→Bool} {xs:List α} {k:Nat} {x:α} (h:(xs.take k).any g=false) (hx:xs[k]? =some x) (hg:g x=false):(xs.take (k+1)).any g=false:=by
 obtain⟨hk,rfl⟩:=zR.1 hx
 rw[za hk,List.any_append,h]
 simp[hg]
theorem jm {α:Type} {g:α→Bool} {xs:List α} {x:α} (hx:x∈xs) (hg:g x=true):xs.any g=true:=List.any_eq_true.2 ⟨x,hx,hg⟩
theorem qDS {α:Type} {g:α→Bool} {xs:List α} {n:Nat} (h:(xs.take n).any g=false) (hl:xs.length=n):xs.any g=false:=by
 rwa [zU (by omega)] at h
theorem dge (a b:Int):decide (b≤a)= !decide (a<b):=by rw[Bool.eq_iff_iff];simp
end Go.Proofs.Ytconajaecpgjgaa
