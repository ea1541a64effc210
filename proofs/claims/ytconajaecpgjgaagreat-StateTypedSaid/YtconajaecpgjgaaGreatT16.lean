/-
Fcw Flc Fcx
-/
import Derived.Test.YtconajaecpgjgaaGreatT07
import Derived.Deep.RegionHeld3
import Derived.Deep.RegionWith
import Derived.Deep.DeepCutAuto
set_option linter.unusedSimpArgs false
set_option linter.unusedVariables false
set_option maxRecDepth 100000
set_option maxHeartbeats 1000000
namespace Go.Proofs.YtconajaecpgjgaaGreat
open Go.RowKit
theorem jk {P:Prop} (h:P:=by exact bodyPost_ret (v:= .agg #[.int .i64 t.1,.int .i64 t.2]) (by simp[results,Tryz.results148,go_sem]) rfl ⟨by rw[HT.out],(qAj _ _).alloc (by simp) _⟩):P:=h
theorem jr {P:Prop} (h:P:=by exact bodyPost_ret (v:= .agg #[.int .i64 8,.int .i64 0]) (by simp[results,Tryz.results148,go_sem]) rfl ⟨by rw[HT.out],(qAj _ _).alloc (by simp) _⟩):P:=h
def Chgs (K:Nat) (ins outs:List Typ) (w:World) (e:Ending) (w':World):Prop:=
 Below w.heap.size w w'∧∃A n c B m d,e= .returned (.agg #[.slice A n c,.slice B m d])∧tysL.R (fun b=>b<K∨w.heap.size≤b∧b<w'.heap.size) w' [.slice A n c] ins∧tysL.R (fun b=>b<K∨w.heap.size≤b∧b<w'.heap.size) w' [.slice B m d] outs
theorem qAy {w:World} {b t:Nat} {c:Array Value} (h:Blk w b t c):Blk w.drew b t c:=h
theorem qIy {S:Nat→Prop} {w:World} {g n:Nat} {cs:Array Value} {ts:List Typ} (h:Blk w g 58 cs) (hg:S g) (hc:cs.toList=T2 ts) (ha:A64 ts) (hn:ts.length=n) (hm:n≤1000):tysL.R S w [.slice (some ⟨g,0,none⟩) n n] ts:=by
 subst hn
 have e:∀i,(⟨g,0,none⟩:Addr).add i=⟨g,i,none⟩:=fun i=>by unfold Addr.add;split<;>simp_all
 have hcell:∀i u,(T2 ts)[i]? =some u→w.cell? ⟨g,i,none⟩=some u:=fun i u hu=>by
  rw[h.cell i,←hu,←hc]
  simp
 refine⟨some ⟨g,0,none⟩,ts.length,rfl,qAf _,by simp only[maxLen];omega,fun _=>⟨_,rfl,hg,fun j t ht=>⟨_,fun i u hu=> ?_,rfl,ha t (qAk ht)⟩⟩⟩
 match i,hu with
 |0,hu=>simp at hu;subst hu;rw[e];exact hcell (j*2) _ (qFL ht)
 |1,hu=>simp at hu;subst hu;rw[e];exact hcell (j*2+1) _ (qFK ht)
 |i+2,hu=>simp at hu
theorem qBK {w:World} {g n N K:Nat} {cs:Array Value} {ts:List Typ} (h:Blk w g 58 cs) (hlo:N≤g) (hc:cs.toList=T2 ts) (ha:A64 ts) (hn:ts.length=n) (hm:n≤1000):tysL.R (fun b=>b<K∨N≤b∧b<w.heap.size) w [.slice (some ⟨g,0,none⟩) n n] ts:=qIy h (.inr ⟨hlo,h.lt⟩) hc ha hn hm
theorem qBH {V:World} {R:Nat} {u v x:Value} (h:V.cell? ⟨R,0,none⟩=some x):((V.setCell ⟨R,0,none⟩ u).setCell ⟨R,1,none⟩ v).cell? ⟨R,0,none⟩=some u:=by simp[go_sem,h]
theorem qBG {V:World} {R:Nat} {u v x:Value} (h:V.cell? ⟨R,1,none⟩=some x):((V.setCell ⟨R,0,none⟩ u).setCell ⟨R,1,none⟩ v).cell? ⟨R,1,none⟩=some v:=by simp[go_sem,h]
theorem qBB {fn:Func} {s:Nat} (h:fn.results= #[.cell s 161]) (tmps:Array Value) (V:World) {R:Nat} {x y:Value} (hp:tmps.getD s undef= .pointer (some ⟨R,0,none⟩)) (h0:V.cell? ⟨R,0,none⟩=some x) (h1:V.cell? ⟨R,1,none⟩=some y):(results fn tmps).run Tryz.prog V= .ok (.agg #[x,y]) V:=by
 have hp':tmps[s]?.getD undef= .pointer (some ⟨R,0,none⟩):=by simpa using hp
 simp[results,h,hp',go_sem,h0,h1]
theorem qEH {K N R N0:Nat} {w4:World} {x u v:Value} {ts:List Typ} (h:tysL.R (fun b=>b<K∨N≤b∧b<w4.heap.size) w4 [x] ts) (h1:N0≤N) (hR1:K≤R) (hR2:R<N):tysL.R (fun b=>b<K∨N0≤b∧b<((w4.setCell ⟨R,0,none⟩ u).setCell ⟨R,1,none⟩ v).heap.size) ((w4.setCell ⟨R,0,none⟩ u).setCell ⟨R,1,none⟩ v) [x] ts:=by
 have hsz:w4.heap.size≤((w4.setCell ⟨R,0,none⟩ u).setCell ⟨R,1,none⟩ v).heap.size:=(qA0 (qAe 0 w4) (qAs _)).size
 refine tysL.wide (tysL.keep h fun b hb=> ?_) fun b hb=> ?_
 · have hne:b≠R:=by rcases hb with hb|hb<;>omega
   exact(qAi _ ⟨R,1,none⟩ v b hne).trans (qAi _ ⟨R,0,none⟩ u b hne)
 · rcases hb with hb|hb
   · exact .inl hb
   · exact .inr ⟨by omega,by omega⟩
theorem qAo {k:Int} (h:0≤k) (h':k≤1000):I64 k:=⟨by omega,by omega⟩
theorem qBg {k:Int} {ts:List Typ} (h:0≤k∧k≤1000) (ha:A64 ts):A64 ((k,0)::ts):=fun t ht=>by
 rcases List.mem_cons.1 ht with rfl|h1
 · exact⟨qAo h.1 h.2,qAo (by omega) (by omega)⟩
 · exact ha t h1
theorem qAx {t:Typ} {ts:List Typ} (h:I64 t.1∧I64 t.2) (ha:A64 ts):A64 (t::ts):=fun u hu=>by
 rcases List.mem_cons.1 hu with rfl|h1
 · exact h
 · exact ha u h1
theorem qFp {f:Fn} {n:Int} (h:n<0):locB f n=(8,0):=by simp[locB,h]
theorem qIx {f:Fn} {n:Int} {j:Nat} {t:Typ} (hn:n=(j:Int)) (h:f.args[j]? =some t):locB f n=t:=by
 subst hn
 have hj:=(qAh.1 h).1
 simp only[locB,Int.toNat_natCast,List.getElem?_append_left hj,h]
 rw[if_neg (by omega)]
 rfl
theorem qIv {f:Fn} {n:Int} {j:Nat} {t:Typ} (hn:n-(f.args.length:Int)=(j:Int)) (h:f.locs[j]? =some t):locB f n=t:=by
 have e:n.toNat=f.args.length+j:=by omega
 simp only[locB,e]
 rw[if_neg (by omega),List.getElem?_append_right (by omega),Nat.add_sub_cancel_left,h]
 rfl
theorem qFo {f:Fn} {n:Int} (h:(f.args.length:Int)+(f.locs.length:Int)≤n):locB f n=(8,0):=by
 simp only[locB]
 rw[if_neg (by omega),List.getElem?_eq_none (by rw[List.length_append];omega)]
 rfl
theorem qEc (A0 A1 A2:Option Addr) (u0 u1 u2 c0 c1 c2:Nat) (r1 r2:Int) (f:Fn) (n:Int) (w:World) (h0:f.args.length=u0) (h1:f.locs.length=u1) (s0:Sq typL (·<w.heap.size) w A0 f.args) (s1:Sq typL (·<w.heap.size) w A1 f.locs)
 (b0:u0≤9223372036854775807) (b1:u1≤9223372036854775807) (hn:I64 n):Calls Tryz.prog 148 #[.agg #[.slice A0 u0 c0,.int .i64 r1,.int .i64 r2,.slice A1 u1 c1,.slice A2 u2 c2],.int .i64 n] w (TypIs (locB f n) w):=by
 obtain⟨hn1,hn2⟩:=hn
 have HP:=qAZ (fun w=>qFy A0 u0 c0 n w)
 have HQ:=qAZ (fun w=>qFy A1 u1 c1 (n-(u0:Int)) w)
 by_cases ha:0≤n∧n<(u0:Int)
 · obtain⟨j,hj⟩:∃j:Nat,n=(j:Int):=⟨n.toNat,by omega⟩
   subst hj
   obtain⟨t,ht⟩:∃t,f.args[j]? =some t:=⟨f.args[j]'(by omega),qAa _⟩
   have HT:=qAZ (qIx rfl ht)
   obtain⟨a,cs,rfl,hab,hc,hr⟩:=s0.at ht
   obtain⟨rfl,-,-⟩:=hr
   have k0:=fun o1 o2=>((qAj w o1).alloc (by simp) o2).cell (p:=a.add (j*2)) qE |>.trans (hc 0 _ rfl)
   have k1:=fun o1 o2=>((qAj w o1).alloc (by simp) o2).cell (p:=a.add (j*2+1)) qE |>.trans (hc 1 _ rfl)
   rw[qAl a (j*2) 1 (by omega)] at k1
   rw[show hasB u0 (j:Int)=true by simp[hasB];omega] at HP
   have j1:(j:Int)<(u0:Int):=by omega
   clear hc ht s0 s1 h0 h1 HQ
   go_enter Tryz.func148,Tryz.ntmps148
   go_wp2_with (first
    |(go_at_call 159
      refine(HP.out _).mono ?_
      rintro e w1 ⟨rfl,rfl⟩))
   exact jk
 · rw[show hasB u0 n=false by simp[hasB];omega] at HP
   by_cases hb:(u0:Int)≤n
   · by_cases hd:n-(u0:Int)<(u1:Int)
     · obtain⟨j,hj⟩:∃j:Nat,n-(u0:Int)=(j:Int):=⟨(n-(u0:Int)).toNat,by omega⟩
       obtain⟨t,ht⟩:∃t,f.locs[j]? =some t:=⟨f.locs[j]'(by omega),qAa _⟩
       have HT:=qAZ (qIv (by rw[h0];exact hj) ht)
       obtain⟨a,cs,rfl,hab,hc,hr⟩:=s1.at ht
       obtain⟨rfl,-,-⟩:=hr
       have k0:=fun o1 o2=>((qAj w o1).alloc (by simp) o2).cell (p:=a.add (j*2)) qE |>.trans (hc 0 _ rfl)
       have k1:=fun o1 o2=>((qAj w o1).alloc (by simp) o2).cell (p:=a.add (j*2+1)) qE |>.trans (hc 1 _ rfl)
       rw[qAl a (j*2) 1 (by omega)] at k1
       rw[show hasB u1 (n-(u0:Int))=true by simp[hasB];omega] at HQ
       have j1:(j:Int)<(u1:Int):=by omega
       rw[hj] at HQ
       clear hc ht s0 s1 h0 h1 ha hd
       go_enter Tryz.func148,Tryz.ntmps148
       go_wp2_with (first
        |(go_at_call 159
          with_reducible refine(HP.out _).mono ?_
          rintro e w1 ⟨rfl,rfl⟩)
        |(go_at_call 159
          refine(HQ.out _).mono ?_
          rintro e w1 ⟨rfl,rfl⟩))
       exact jk
     · have HT:=qAZ (qFo (f:=f) (n:=n) (by rw[h0,h1];omega))
       rw[show hasB u1 (n-(u0:Int))=false by simp[hasB];omega] at HQ
       obtain⟨z,hz⟩:∃z,n-(u0:Int)=z:=⟨_,rfl⟩
       have z1: -9223372036854775808≤z:=by omega
       have z2:z≤9223372036854775807:=by omega
       rw[hz] at HQ
       clear s0 s1 h0 h1 ha hd
       go_enter Tryz.func148,Tryz.ntmps148
       go_wp2_with (first
        |(go_at_call 159
          with_reducible refine(HP.out _).mono ?_
          rintro e w1 ⟨rfl,rfl⟩)
        |(go_at_call 159
          refine(HQ.out _).mono ?_
          rintro e w1 ⟨rfl,rfl⟩))
       exact jr
   · have HT:=qAZ (qFp (f:=f) (n:=n) (by omega))
     clear s0 s1 h0 h1 ha
     go_enter Tryz.func148,Tryz.ntmps148
     go_wp2_with (first
      |(go_at_call 159
        refine(HP.out _).mono ?_
        rintro e w1 ⟨rfl,rfl⟩))
     exact jr
structure Cx (w:World) (A0 A1 A2 A3 A4 P0 P1 P2 D:Option Addr) (n0 n1 n2 n3 n4 d0 d1 d2 d3 d4 ua ul uc c0 c1 c2 k g:Nat) (x:Mod) (f:Fn) (ts:List Typ):Prop where
 l0:x.recs.length=n0
 l1:x.funcs.length=n1
 l2:x.imps.length=n2
 s0:Sq tysL (·<w.heap.size) w A0 x.recs
 s1:Sq fnL (·<w.heap.size) w A1 x.funcs
 s2:Sq impL (·<w.heap.size) w A2 x.imps
 g0:f.args.length=ua
 g1:f.locs.length=ul
 t0:Sq typL (·<w.heap.size) w P0 f.args
 t1:Sq typL (·<w.heap.size) w P1 f.locs
 rt:I64 f.ret.1∧I64 f.ret.2
 hk:ts.length=k
 sk:Sq typL (·<w.heap.size) w D ts
 b0:n0≤1000
 b1:n1≤1000
 b2:n2≤1000
 b3:ua≤1000
 b4:ul≤1000
 b5:k≤1000
theorem qDn {f:Fn} {n:Int} (h:A64 f.args) (h':A64 f.locs):I64 (locB f n).1∧I64 (locB f n).2:=by
 have hd:I64 ((8,0):Typ).1∧I64 ((8,0):Typ).2:=⟨qAo (by omega) (by omega),qAo (by omega) (by omega)⟩
 unfold locB
 split
 · exact hd
 · cases e:(f.args++f.locs)[n.toNat]? with
   |none=>exact hd
   |some t=>exact(h.app h') t (qAk e)
theorem field_n (a b:Int) (v:World):Sem.run Tryz.prog (Instr.field 58 (Value.agg #[.int .i64 a,.int .i64 b]) 1) v= .ok (.int .i64 b) v:=by
 have ht:=run_underlying (P:=Tryz.prog) (w:=v) Tryz.underlying58
 obtain⟨i0,hi0,hz0,hz1,hz2⟩:=info_parts (show(Tryz.prog.info? 3).map (fun i=>(i.zero,i.size,i.bytes))=some (some (.int .i64 0),1,8) by kernel_rfl)
 simp[Instr.field,ht,asAgg,part,sizeOf,typeInfo,hi0,hz1]
theorem qDl {s:List Typ} {n:Nat} (h:A64 s):I64 (topB s n).1∧I64 (topB s n).2:=by
 have hd:I64 ((8,0):Typ).1∧I64 ((8,0):Typ).2:=⟨qAo (by omega) (by omega),qAo (by omega) (by omega)⟩
 unfold topB
 split
 · cases e:s[s.length-1-n]? with
   |none=>exact hd
   |some t=>exact h t (qAk e)
 · exact hd
end Go.Proofs.YtconajaecpgjgaaGreat
