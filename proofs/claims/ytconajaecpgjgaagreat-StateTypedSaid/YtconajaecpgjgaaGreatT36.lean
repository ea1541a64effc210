/-
Rjn Rfx Rmh Rmn
-/
import Derived.Test.YtconajaecpgjgaaGreatT01
import Derived.Test.YtconajaecpgjgaaGreatT05
import Derived.Test.YtconajaecpgjgaaGreatT06
import Derived.Test.YtconajaecpgjgaaGreatT07
import Derived.Test.YtconajaecpgjgaaGreatT35
import Derived.Deep.DeepCutAuto
import Derived.Deep.RegionHeld3
set_option linter.unusedSimpArgs false
set_option linter.unusedVariables false
set_option maxRecDepth 100000
set_option maxHeartbeats 4000000
namespace Go.Proofs.YtconajaecpgjgaaGreat
open Go.RowKit
theorem zb {P:Prop} (h:P:=by
 clear hc
 go_enter Tryz.func50,Tryz.ntmps50
 go_wp2_with fail
 go_ret2
 exact FIN.out _ HB0.out):P:=h
theorem qFV (A:Option Addr) (n c:Nat) (xss:List (List Nat)) (w:World) (hl:xss.length=n) (hR:Rws (·<w.heap.size) w A xss) (hn:(joinB xss).length≤1000000):
 Calls Tryz.prog 87 #[.slice A n c] w fun e w'=>∃v,e= .returned v∧w'.ownsRow w.heap.size 5 1 v (joinB xss).length (Bs (joinB xss))∧Below w.heap.size w w':=by
 have hn2:n≤1000000:=by have:=qFe xss;rw[qBl] at hn;omega
 have HN:=qAZ hn
 have HL:=qAZ hl
 have HR:=qAZ hR
 clear hl hR hn
 have hn3:n<B64:=by unfold B64;omega
 go_enter Tryz.func87,Tryz.ntmps87
 go_wp2_with fail
 refine(qBE n w hn3).mono ?_
 rintro e w1 ⟨u1,rfl,hown1,hb1⟩
 have HO1:=qAZ hown1
 have HB1:=qAZ hb1
 clear hown1 hb1
 go_wp2_with fail
 go_loopw [3,4] (fun s i wr=>∃k:Nat,k≤n∧i= .int .i64 (k:Nat)∧(∃q,q=vb n++pts (xss.take k)∧q.length≤1000000∧wr.ownsRow w.heap.size 5 1 s q.length (Bs q))∧Below w.heap.size w wr) (fun _ i _=>n-(intOf i).toNat)
 case atStart=>
  exact ju
 case round=>
  obtain⟨k,hk,rfl,⟨q,hq,hq2,hown⟩,hbel⟩:=hrel
  have HO:Hid (wr.drew.ownsRow w.heap.size 5 1 u3 q.length (Bs q)):=qA4 hown ((qAe _ wr).drew) (qAf _)
  have HO0:=qAZ hown
  have HB0:=qAZ hbel
  have HB:Hid (Below w.heap.size w wr.drew):=hbel.drew
  have HQ:=qAZ hq
  have hs:=hbel.size
  clear hown hbel hq
  by_cases hlt:k<n
  · obtain⟨a,B,c2,rfl,hab,hcell,_,hBy⟩:=HR.out.at (k:=k) qd
    have hcell2:wr.cell? (a.add k)=some (.slice B (xss[k]?.getD []).length c2):=(HB0.out.cell (p:=a.add k) qE).trans hcell
    have HF:=qAZ (qFd xss k qd)
    have hle2:=qIr xss (k+1)
    rw[HF.out,List.length_append,qCu] at hle2
    obtain⟨x,hx⟩:∃x,xss[k]?.getD []=x:=⟨_,rfl⟩
    rw[hx] at hcell hle2 hcell2 hBy
    have HX:=qAZ hx
    have HY:=qAZ hBy
    have HC:=qAZ hcell
    have HA:Hid ((a.add k).block<w.heap.size):=by show(a.add k).block<w.heap.size;rw[qA9];exact hab
    clear hx hcell hBy hab
    have hq3:q.length+(vb x.length).length+x.length≤1000000:=by
     have:=HN.out
     rw[qBl,HL.out] at this
     rw[HQ.out,List.length_append]
     omega
    clear hle2
    have hx64:x.length<B64:=by unfold B64;omega
    have k0:0≤(k:Int):=by omega
    have k1:(k:Int)<(n:Int):=by omega
    have b1:q.length+(vb x.length).length≤140737488355328:=by omega
    have b2:q.length+(vb x.length).length+x.length≤140737488355328:=by omega
    have HW:Hid (IntKind.u64.wrap ((x.length:Nat):Int)=((x.length:Nat):Int)):=by show IntKind.u64.wrap ((x.length:Nat):Int)=_;rw[IntKind.wrap_u64];omega
    go_wp2_with fail
    go_region_law (first
     |(with_reducible refine qBY (.tmp 15) (.tmp 22) 52 ?_
       refine qBP _ rfl (.tmp 15) (.tmp 22) rfl w.heap.size u3 q.length q rfl HO2.out A2 (vb x.length).length c3 (vb x.length) rfl rfl _ HB2.out b1 HS2.out ?_
       intro v3 w3 hown3 hg3 _
       have HO3:=qAZ hown3
       have HB3:=qAZ (Hb2.out.grown hg3 HS2.out (fun i hi=>(HO.out.lt i hi).1))
       have HS3:=qAZ HB3.out.size
       have hcell4:=(HB3.out.cell (p:=a.add k) HA.out).trans HC.out
       clear hown3 hg3)
     |(with_reducible refine qBY (.tmp 23) (.tmp 27) 52 ?_
       refine qBP _ rfl (.tmp 23) (.tmp 27) rfl w.heap.size v3 (q.length+(vb x.length).length) (q++vb x.length) rfl HO3.out B x.length c2 x rfl rfl (·<w.heap.size) (HY.out.below HB3.out (qAf _)) b2 HS3.out ?_
       intro v4 w4 hown4 hg4 _
       have HO4:=qAZ hown4
       have HB4:=qAZ (HB3.out.grown hg4 HS3.out (fun i hi=>(HO3.out.lt i hi).1))
       clear hown4 hg4)
     |(with_reducible refine qCJ 81 ?_
       go_simp
       go_at_call 81
       rw[HW.out]
       refine(qBE x.length _ hx64).mono ?_
       rintro e w2 ⟨u2,rfl,hown2,hb2⟩
       obtain⟨A2,c3,rfl,-,-,-,hB2⟩:=qA5 hown2
       have HB2:=qAZ hB2
       have Hb2:=qAZ (HB.out.trans (hb2.mono HB.out.size))
       have HO2:=qAZ (qA4 HO.out hb2 (qAf _))
       have HS2:=qAZ Hb2.out.size
       have hcell3:=(Hb2.out.cell (p:=a.add k) HA.out).trans HC.out
       clear hown2 hB2 hb2))
    all_goals
     go_wp2_with fail
     refine⟨⟨k+1,by omega,by simp,⟨q++vb x.length++x,?_,?_,?_⟩,HB4.out⟩,by simp[intOf];omega⟩
     · rw[HF.out,HQ.out,HX.out,pt]
       simp[List.append_assoc]
     · simp[List.length_append]
       omega
     · exact qAI
  · obtain rfl:k=n:=by omega
    go_wp2_with fail
    go_ret
    refine⟨_,rfl,?_,HB0.out⟩
    have e:joinB xss=q:=by
     rw[HQ.out,qAr qZ,joinB,HL.out]
    rw[e]
    exact HO0.out
theorem qE1 (v:Nat) (n:Int) (w:World) (hv:v<B64):
 Calls Tryz.prog 86 #[.int .u64 (v:Nat),.int .i64 n] w fun e w'=>∃u,e= .returned u∧w'.ownsRow w.heap.size 5 1 u (wid n) (Bs (fb v (wid n)))∧Below w.heap.size w w':=by
 go_enter Tryz.func86,Tryz.ntmps86
 go_wp2
 go_loopw [0,5,6] (fun x o i wr=>∃k:Nat,k≤wid n∧x= .int .u64 ((v / 256 ^ k:Nat):Int)∧i= .int .i64 (k:Nat)∧wr.ownsRow w.heap.size 5 1 o k (Bs (fb v k))∧Below w.heap.size w wr) (fun _ _ i _=>8-(intOf i).toNat)
 case atStart=>exact⟨0,qAs _,by simp,rfl,World.ownsRow_nil _ _ _ _,qAe _ _⟩
 case round=>
  obtain⟨k,hk,rfl,rfl,hown,hbel⟩:=hrel
  have hw8:=qIQ n
  have hvk:v / 256 ^ k<B64:=Nat.lt_of_le_of_lt (Nat.div_le_self _ _) hv
  obtain⟨u,hu⟩:∃u,v / 256 ^ k=u:=⟨_,rfl⟩
  rw[hu] at hvk⊢
  have HU:=qAZ hu
  have HO:=qAZ hown
  have HV:=qAZ hvk
  clear hu hown hvk hv
  have hs:=hbel.size
  by_cases hlt:k<wid n
  · have t1:decide ((k:Int)<n)=true:=by unfold wid at hlt;simp;omega
    have t2:decide ((k:Int)<8)=true:=by simp;omega
    have t3:k<8:=by omega
    go_wp2_with (at_builtin
                 refine qA3 _ rfl (.tmp 16) (.tmp 20) rfl w.heap.size u5 k (fb v k) rfl (HO.out.alloc _) (some ⟨wr.heap.size,0,none⟩) 1 1 [u % 256] rfl rfl (·=wr.heap.size) (qFH wr _ (u % 256) (by first|rfl|omega|simp)) (by omega) qf ?_
                 intro v1 w1 hown1 hg1 _)
    refine⟨⟨k+1,hlt,?_,by simp,?_,(hbel.alloc hs _).grown hg1 qf (fun j hj=>(HO.out.lt j hj).1)⟩,by simp[intOf];omega⟩
    · have e:v / 256 ^ (k+1)=u / 256:=by rw[Nat.pow_succ,←Nat.div_div_eq_div_mul,HU.out]
      have h:=HV.out
      unfold B64 at h
      rw[e,IntKind.wrap_u64]
      congr 1
      omega
    · rw[fb_succ,HU.out]
      exact hown1
  · obtain rfl:k=wid n:=by omega
    by_cases hn:((wid n:Nat):Int)<n
    · have t1:decide (((wid n:Nat):Int)<n)=true:=by simpa using hn
      have t2:decide (((wid n:Nat):Int)<8)=false:=by unfold wid at hn ⊢;simp;omega
      have t3:¬wid n<8:=by unfold wid at hn ⊢;omega
      go_wp2
      go_ret
      exact⟨_,rfl,HO.out,hbel⟩
    · have t1:decide (((wid n:Nat):Int)<n)=false:=by simpa using hn
      go_wp2
      go_ret
      exact⟨_,rfl,HO.out,hbel⟩
theorem qCF (A:Option Addr) (n c:Nat) (xs:List Typ) (r mo:Int) (w:World) (hl:xs.length=n) (h:Sq typL (·<w.heap.size) w A xs) (hn2:n≤3000) (hr:r≤8):
 Calls Tryz.prog 82 #[.slice A n c,.int .i64 r,.int .i64 mo] w fun e w'=>Below w.heap.size w w'∧∃A2 m c2 ys,e= .returned (.tuple #[.slice A2 m c2,.bool (witB 0 mo (goodT r) xs)])∧ys.length=m∧m≤12010∧m≤c2∧Byt (fun b=>w.heap.size≤b∧b<w'.heap.size) w' A2 ys∧(witB 0 mo (goodT r) xs=true→ys=lB tB xs):=by
 refine(qGI A n c xs r mo w hl h hn2 hr).mono ?_
 rintro e w' ⟨hb,⟨hall,u,rfl,hown⟩|⟨hall,rfl⟩⟩
 · obtain⟨A2,c2,rfl,hn,hc,_,hB⟩:=qA5 hown
   have hw:witB 0 mo (goodT r) xs=decide ((xs.length:Int)≤mo):=by
    simp only[witB,hall,Bool.and_true]
    exact decide_eq_decide.2 ⟨fun h=>h.2,fun h=>⟨by omega,h⟩⟩
   have hlen:=qBp tB xs 4 (fun t ht=>qC6 hr (List.all_eq_true.1 hall t ht)) (by unfold B64;omega)
   refine⟨hb,A2,_,c2,lB tB xs,by rw[hw],rfl,by omega,hc,hB,fun _=>rfl⟩
 · have hw:witB 0 mo (goodT r) xs=false:=by simp only[witB,hall,Bool.and_false]
   refine⟨hb,none,0,0,[],by rw[hw],rfl,by omega,by omega,Byt.nil _ _ _,fun h=>by rw[hw] at h;cases h⟩
def RMod (x:Mod) (w:World) (e:Ending) (w':World):Prop:=
 Below w.heap.size w w'∧((fitB x=true∧∃u,e= .returned (.tuple #[u,.bool true])∧w'.ownsRow w.heap.size 5 1 u (modB x).length (Bs (modB x)))∨
  (fitB x=false∧∃A n c,e= .returned (.tuple #[.slice A n c,.bool false])))
theorem qDs {α:Type} {g:α→Bool} {xs:List α} {k:Nat} {x:α} (hx:xs[k]? =some x):(xs.take (k+1)).all g=((xs.take k).all g && g x):=by
 obtain⟨hk,rfl⟩:=qAh.1 hx
 rw[qAu hk,List.all_append]
 simp
theorem fit_all {x:Mod} (h0:x.recs.length≤8) (h1:1≤x.funcs.length) (h2:x.funcs.length≤8) (h3:x.imps.length≤8) (h4:x.ints.length≤16) (h5:x.texts.length≤16):
 fitB x=(x.recs.all (recOk x.recs.length) && x.funcs.all (fnOk x.recs.length) && x.imps.all (impOk x.recs.length) && x.texts.all shortB):=by
 have e0:decide ((0:Int)≤(x.recs.length:Int)∧(x.recs.length:Int)≤8)=true:=decide_eq_true ⟨by omega,by omega⟩
 have e1:decide ((1:Int)≤(x.funcs.length:Int)∧(x.funcs.length:Int)≤8)=true:=decide_eq_true ⟨by omega,by omega⟩
 have e2:decide ((0:Int)≤(x.imps.length:Int)∧(x.imps.length:Int)≤8)=true:=decide_eq_true ⟨by omega,by omega⟩
 have e3:decide (x.ints.length≤16)=true:=decide_eq_true h4
 have e4:decide ((0:Int)≤(x.texts.length:Int)∧(x.texts.length:Int)≤16)=true:=decide_eq_true ⟨by omega,by omega⟩
 simp only[fitB,witB,e0,e1,e2,e3,e4,Bool.true_and,Bool.and_true]
theorem C5.grown {b:Nat} {v0 v1 v2 v3 v4:Value} {w w':World} {o:Option Nat} (h:C5 b v0 v1 v2 v3 v4 w) (hg:w.grownBy w' o) (ho:o≠some b) (hb:b<w.heap.size):C5 b v0 v1 v2 v3 v4 w':=by
 have hk:w'.heap[b]? =w.heap[b]? :=hg.block b hb (by intro e;first|exact ho e|exact ho e.symm)
 have hc:∀i,w'.cell? ⟨b,i,none⟩=w.cell? ⟨b,i,none⟩:=fun i=>qAb hk
 exact⟨(hc 0).trans h.1,(hc 1).trans h.2.1,(hc 2).trans h.2.2.1,(hc 3).trans h.2.2.2.1,(hc 4).trans h.2.2.2.2⟩
theorem qDj (w:World) {ops:Array Oper} {o:Oper} {a:Act} {K:Act→World→Prop} {Q:Exit→Act→World→Prop} {E:Prop} (hgd:o.guard=none) (sl x:Operand)
 (ho:o.op= .call {callee:= .builtin .append,args:= #[sl,x],argTypes:= #[52,9]})
 (base:Nat) (v:Value) (n:Nat) (xs:List Nat) (hs:a.eval sl=v) (hown:w.ownsRow base 5 1 v n (Bs xs)) (s:ByteArray) (hx:a.eval x= .string s)
 (hbig:n+(strB s).length≤140737488355328) (hbase:base≤w.heap.size)
 (h:∀v' w',w'.ownsRow base 5 1 v' (n+(strB s).length) (Bs (xs++strB s))→w.grownBy w' v.ownBlock→K (a.put o.dst v') w'):
 if Region.wanted o (yielded ops a.tmps)=true then Oper.wp Tryz.prog o a w K Q else E:=by
 have hw:Region.wanted o (yielded ops a.tmps)=true:=by simp[Region.wanted,hgd]
 rw[if_pos hw]
 obtain⟨i0,hi0,hz0,hz1,hz2⟩:=info_parts qDE
 rw[qB4] at hbig h
 obtain⟨v',w',hrun,h2,h3,_⟩:=Lib.run_append_own_string (P:=Tryz.prog) w base 52 9 o.type 5 i0 Tryz.underlying52 Tryz.underlying9 hi0 hz0 hz1 hz2 v n (Bs xs) hown s (by simp only[maxLen];omega) hbig hbase
 unfold Oper.wp execOp
 simp only[ho,resolve,invoke,builtin,Sem.run_bind,Sem.run_pure,Result.andThen_ok,List.map_toArray,List.map_cons,List.map_nil,hs,hx,hrun]
 rw[qDz,←qGz] at h2
 exact h v' w' h2 h3
theorem qIT (s x:Operand) (t u:TypeId) {d:Option Tmp} {ty:TypeId} {p:String} {af:Array Edge} {g:Option (Nat×Bool)} {y:Nat→Option Bool} {inst:Decidable (Region.wanted ⟨d,.call ⟨.builtin .append,#[s,x],#[t,u]⟩,ty,p,af,g⟩ y=true)} {W E:Prop}
 (h: @ite Prop (Region.wanted ⟨d,.call ⟨.builtin .append,#[s,x],#[t,u]⟩,ty,p,af,g⟩ y=true) inst W E): @ite Prop (Region.wanted ⟨d,.call ⟨.builtin .append,#[s,x],#[t,u]⟩,ty,p,af,g⟩ y=true) inst W E:=h
theorem qDy {α:Type} {g:α→Bool} {xs:List α} {k:Nat} (h:(xs.take k).all g=false):xs.all g=false:=by
 rw[←List.take_append_drop k xs,List.all_append,h]
 rfl
theorem qC4 {α:Type} {g:α→Bool} {xs:List α} {k:Nat} {x:α} (hx:xs[k]? =some x) (h:g x=false):xs.all g=false:=by
 rw[List.all_eq_false]
 exact⟨x,qAk hx,by rw[h];simp⟩
theorem qBi {α:Type} {xs:List α} {n:Nat} (h:xs.length=n):xs.take n=xs:=qAr (by omega)
theorem qE4 {t:Ins} (h:goodIn t=true):0<(iB t).length:=by
 obtain⟨o,a,b⟩:=t
 obtain⟨o1,a1,b1,rfl,rfl,rfl,_⟩:=qBF (op:=o) (a:=a) (b:=b) h
 rw[iB,qBm h]
 simp
theorem qI4 {t:Ins} (h:goodIn t=false):iB t=[]:=by
 obtain⟨o,a,b⟩:=t
 unfold iB insB
 have h':goodI o a b=false:=h
 simp[h']
theorem wit_few {α:Type} {g:α→Bool} {xs:List α} {n:Nat} {hi:Int} (h:xs.length=n) (hn:¬1≤n):witB 1 hi g xs=false:=by
 have:decide ((1:Int)≤(xs.length:Int)∧(xs.length:Int)≤hi)=false:=decide_eq_false (by omega)
 rw[witB,this]
 rfl
theorem qIO {α:Type} {g:α→Bool} {xs:List α} {n:Nat} (h:xs.length=n) (hn:¬n≤64):witB 1 64 g xs=false:=by
 have:decide ((1:Int)≤(xs.length:Int)∧(xs.length:Int)≤64)=false:=decide_eq_false (by omega)
 rw[witB,this]
 rfl
theorem wit_one {α:Type} {g:α→Bool} {xs:List α} {lo hi:Int} {k:Nat} {x:α} (hx:xs[k]? =some x) (h:g x=false):witB lo hi g xs=false:=by
 rw[witB,qC4 hx h]
 simp
theorem qIP {α:Type} {g:α→Bool} {xs:List α} {n:Nat} (h:xs.length=n) (h1:1≤n) (h2:n≤64) (ha:xs.all g=true):witB 1 64 g xs=true:=by
 have:decide ((1:Int)≤(xs.length:Int)∧(xs.length:Int)≤64)=true:=decide_eq_true (by omega)
 rw[witB,this,ha]
 rfl
def Out (lo hi:Nat) (v:Value):Prop:=∀i,v.ownBlock=some i→i<lo∨hi≤i
theorem qI7 {lo hi b:Nat} {v:Value} {w w':World} (ho:Out lo hi v) (hg:w.grownBy w' v.ownBlock) (h1:lo≤b) (h2:b<hi) (h3:hi≤w.heap.size):w'.heap[b]? =w.heap[b]? :=
 hg.block b (by omega) (by intro e;have:=ho b (by first|exact e|exact e.symm);omega)
theorem Out.grown {lo hi n:Nat} {v v':Value} (h:Out lo hi v) (hv:v'.ownBlock=v.ownBlock∨v'.ownBlock=some n) (hn:hi≤n):Out lo hi v':=fun i hi'=>by
 rcases hv with e|e
 · exact h i (e▸hi')
 · rw[e] at hi'
   injection hi' with hi'
   omega
structure Rgn (V:World) (lo hi:Nat) (a b c d e:Value) (Y1 Y2:Option Addr) (ys1 ys2:List Nat) (s:Value) (q:List Nat) (w:World):Prop where
 own:w.ownsRow V.heap.size 5 1 s q.length (Bs q)
 bel:Below V.heap.size V w
 c5:C5 lo a b c d e w
 y1:Byt (fun b=>lo≤b∧b<hi) w Y1 ys1
 y2:Byt (fun b=>lo≤b∧b<hi) w Y2 ys2
 out:Out lo hi s
 lh:lo<hi
 hw:hi≤w.heap.size
section
variable {V:World} {lo hi:Nat} {a b c d e:Value} {Y1 Y2:Option Addr} {ys1 ys2:List Nat} {s:Value} {q:List Nat} {w w':World}
theorem Rgn.call (h:Rgn V lo hi a b c d e Y1 Y2 ys1 ys2 s q w) (hb:Below w.heap.size w w'):Rgn V lo hi a b c d e Y1 Y2 ys1 ys2 s q w':=
 have hl:=h.lh
 have hh:=h.hw
 ⟨qA4 h.own hb (qAf _),h.bel.trans (hb.mono h.bel.size),h.c5.below hb (by omega),h.y1.keep fun b h1=>hb.block b (by omega),h.y2.keep fun b h1=>hb.block b (by omega),h.out,h.lh,qBA h.hw hb.size⟩
theorem qB8 (h:Rgn V lo hi a b c d e Y1 Y2 ys1 ys2 s q w):w.cell? ⟨lo,1,none⟩=some b∧w.cell? ⟨lo,2,none⟩=some c∧w.cell? ⟨lo,4,none⟩=some e:=⟨h.c5.2.1,h.c5.2.2.1,h.c5.2.2.2.2⟩
theorem Rgn.drew (h:Rgn V lo hi a b c d e Y1 Y2 ys1 ys2 s q w):Rgn V lo hi a b c d e Y1 Y2 ys1 ys2 s q w.drew:=h.call ((qAe _ w).drew)
theorem Rgn.app (h:Rgn V lo hi a b c d e Y1 Y2 ys1 ys2 s q w) {v':Value} {ys:List Nat} {m:Nat} (hm:ys.length=m) (hown:w'.ownsRow V.heap.size 5 1 v' (q.length+m) (Bs (q++ys))) (hg:w.grownBy w' s.ownBlock) (hv:v'.ownBlock=s.ownBlock∨v'.ownBlock=some w.heap.size):
 Rgn V lo hi a b c d e Y1 Y2 ys1 ys2 v' (q++ys) w':=by
 have hl:=h.lh
 have hh:=h.hw
 have hk:∀b,lo≤b∧b<hi→w'.heap[b]? =w.heap[b]? :=fun b hb=>qI7 h.out hg hb.1 hb.2 hh
 refine⟨by rw[List.length_append,hm];exact hown,h.bel.grown hg h.bel.size (fun i hi=>(h.own.lt i hi).1),?_,h.y1.keep hk,h.y2.keep hk,h.out.grown hv hh,hl,qBA hh hg.size⟩
 have hc:∀i,w'.cell? ⟨lo,i,none⟩=w.cell? ⟨lo,i,none⟩:=fun i=>qAb (hk lo ⟨qAf _,hl⟩)
 exact⟨(hc 0).trans h.c5.1,(hc 1).trans h.c5.2.1,(hc 2).trans h.c5.2.2.1,(hc 3).trans h.c5.2.2.2.1,(hc 4).trans h.c5.2.2.2.2⟩
end
theorem qIi (cs:List Value) (x:Mod) (w:World) (h:modL.R (·<w.heap.size) w cs x) (hc:¬(x.recs.length≤8∧1≤x.funcs.length∧x.funcs.length≤8∧x.imps.length≤8∧x.ints.length≤16∧x.texts.length≤16)):Calls Tryz.prog 50 #[vAgg cs] w (RMod x w):=by
 obtain⟨_,_,_,_,_,rfl,⟨A0,d0,e0,l0,m0,s0⟩,⟨A1,d1,e1,l1,m1,s1⟩,⟨A2,d2,e2,l2,m2,s2⟩,⟨A3,d3,e3,l3,m3,s3⟩,⟨A4,d4,e4,l4,m4,s4⟩⟩:=h
 simp only[List.cons.injEq,and_true] at e0 e1 e2 e3 e4
 subst e0 e1 e2 e3 e4
 unfold maxLen at m0 m1 m2 m3 m4
 show Calls Tryz.prog 50 #[.agg #[.slice A0 x.recs.length d0,.slice A1 x.funcs.length d1,.slice A2 x.imps.length d2,.slice A3 x.ints.length d3,.slice A4 x.texts.length d4]] w _
 obtain⟨n0,hn0⟩:∃n,x.recs.length=n:=⟨_,rfl⟩
 have HL0:=qAZ hn0
 have HS0:=qAZ s0
 obtain⟨n1,hn1⟩:∃n,x.funcs.length=n:=⟨_,rfl⟩
 have HL1:=qAZ hn1
 have HS1:=qAZ s1
 obtain⟨n2,hn2⟩:∃n,x.imps.length=n:=⟨_,rfl⟩
 have HL2:=qAZ hn2
 have HS2:=qAZ s2
 obtain⟨n3,hn3⟩:∃n,x.ints.length=n:=⟨_,rfl⟩
 have HL3:=qAZ hn3
 have HS3:=qAZ s3
 obtain⟨n4,hn4⟩:∃n,x.texts.length=n:=⟨_,rfl⟩
 have HL4:=qAZ hn4
 have HS4:=qAZ s4
 rw[hn0,hn1,hn2,hn3,hn4] at hc⊢
 rw[hn0] at l0
 rw[hn1] at l1
 rw[hn2] at l2
 rw[hn3] at l3
 rw[hn4] at l4
 clear hn0 s0 hn1 s1 hn2 s2 hn3 s3 hn4 s4
 have HB0:Hid (Below w.heap.size w (w.alloc (.cells #[.slice A0 n0 d0,.slice A1 n1 d1,.slice A2 n2 d2,.slice A3 n3 d3,.slice A4 n4 d4] 28))):=(qAe _ _).alloc (qAf _) _
 have HF:Hid (fitB x=false):=by
  cases hf:fitB x
  · rfl
  · exfalso
    have hF:=qBJ.1 hf
    have:=hF.r8
    have:=hF.f1
    have:=hF.f8
    have:=hF.i8
    have:=hF.n16
    have:=hF.t16
    rw[HL0.out] at*
    rw[HL1.out] at*
    rw[HL2.out] at*
    rw[HL3.out] at*
    rw[HL4.out] at*
    omega
 have FIN:Hid (∀W':World,Below w.heap.size w W'→RMod x w (.returned (.tuple #[.slice none 0 0,.bool false])) W'):=fun W' hb=>⟨hb,.inr ⟨HF.out,none,0,0,rfl⟩⟩
 by_cases c0:n0≤8
 rotate_left
 · have g0:(8:Int)<(n0:Int):=by omega
   exact zb
 by_cases c1:1≤n1
 rotate_left
 · have g0:¬(8:Int)<(n0:Int):=by omega
   have g1:(n1:Int)<(1:Int):=by omega
   exact zb
 by_cases c2:n1≤8
 rotate_left
 · have g0:¬(8:Int)<(n0:Int):=by omega
   have g1:¬(n1:Int)<(1:Int):=by omega
   have g2:(8:Int)<(n1:Int):=by omega
   exact zb
 by_cases c3:n2≤8
 rotate_left
 · have g0:¬(8:Int)<(n0:Int):=by omega
   have g1:¬(n1:Int)<(1:Int):=by omega
   have g2:¬(8:Int)<(n1:Int):=by omega
   have g3:(8:Int)<(n2:Int):=by omega
   exact zb
 by_cases c4:n3≤16
 rotate_left
 · have g0:¬(8:Int)<(n0:Int):=by omega
   have g1:¬(n1:Int)<(1:Int):=by omega
   have g2:¬(8:Int)<(n1:Int):=by omega
   have g3:¬(8:Int)<(n2:Int):=by omega
   have g4:(16:Int)<(n3:Int):=by omega
   exact zb
 have g0:¬(8:Int)<(n0:Int):=by omega
 have g1:¬(n1:Int)<(1:Int):=by omega
 have g2:¬(8:Int)<(n1:Int):=by omega
 have g3:¬(8:Int)<(n2:Int):=by omega
 have g4:¬(16:Int)<(n3:Int):=by omega
 have g5:(16:Int)<(n4:Int):=by omega
 clear hc
 go_enter Tryz.func50,Tryz.ntmps50
 go_wp2_with fail
 go_ret2
 exact FIN.out _ HB0.out
end Go.Proofs.YtconajaecpgjgaaGreat
