/-
Nfx Mo Gh0 Lay Hr Tn Hf Htb
-/
import Derived.Test.YtgdbhanhmenmfaaGreatQ01
import Derived.Test.YtgdbhanhmenmfaaGreatQ02
import Derived.Lib.AppendStr
import Derived.Deep.RegionHeld3
import Derived.Deep.DeepCutAuto
set_option linter.unusedSimpArgs false
set_option linter.unusedVariables false
set_option maxRecDepth 100000
set_option maxHeartbeats 1000000
namespace Go.Proofs.YtgdbhanhmenmfaaGreat
open Go.RowKit
variable {B:Nat}{H:List Hnd}{O:List Ob}{S T:Nat→Prop}{a b:World}{c:Nat}{cs:List Value}{css:List (List Value)}{α:Type}{f:α→List Nat}{g j n:Nat}{r:Int}{tag:Nat→Nat}{v0 v1 v2 v3:Value}{w w':World}
def fz (v m i:Nat):List Nat:=(List.range m).map fun j=>if j<i then v / 256 ^ j % 256 else 0
theorem qL5 (v m i:Nat):(fz v m i).length=m:=by simp[fz]
theorem fz_all (v m:Nat):fz v m m=fb v m:=by
 unfold fz fb;refine List.map_congr_left fun j hj=> ?_;rw[if_pos (List.mem_range.1 hj)]
theorem fz_zero (v m:Nat):Bs (fz v m 0)=List.replicate m (.int .u8 0):=by
 unfold Bs fz;rw[List.eq_replicate_iff];refine⟨by simp,fun b hb=> ?_⟩;simp at hb;exact hb.2.symm
theorem fz_set (v m i:Nat):(Bs (fz v m i)).set i (.int .u8 ((v / 256 ^ i % 256:Nat):Int))=Bs (fz v m (i+1)):=by
 apply List.ext_getElem
 · simp[Bs,fz]
 · intro j h1 h2
   simp only[Bs,fz,List.getElem_set,List.getElem_map,List.getElem_range]
   by_cases hij:i=j
   · subst hij;simp
   · rw[if_neg hij]
     by_cases hj:j<i
     · rw[if_pos hj,if_pos (by omega)]
     · rw[if_neg hj,if_neg (by omega)]
theorem qMq (v k:Nat):(v:Int) / 2 ^ (8*k) % 256=((v / 256 ^ k % 256:Nat):Int):=by
 have:(256:Nat) ^ k=2 ^ (8*k):=by rw[Nat.pow_mul]
 rw[this];simp
theorem qEE (v:Nat) (n:Int) (w:World) (hv:v<B64):
 Calls Tryz.prog 184 #[.int .u64 (v:Nat),.int .i64 n] w fun e w'=>∃u,e= .returned u∧w'.ownsRow w.heap.size 5 1 u (wid n) (Bs (fb v (wid n)))∧Below w.heap.size w w':=by
 obtain⟨i0,hi0,hz0,hz1,hz2⟩:=info_parts qFK;have hw8:=qMe n;have HV:=qBK hv;clear hv
 go_enter Tryz.func184,Tryz.ntmps184
 go_wp2_with fail
 refine(qGU n w).mono ?_;rintro e w' ⟨rfl,rfl⟩;obtain⟨m,hm⟩:∃m,wid n=m:=⟨_,rfl⟩;rw[hm] at hw8⊢;have HM:=qBK hm;clear hm;have hby:i0.bytes*m≤281474976710656:=by rw[hz2];omega
 have hml:m≤maxLen:=by simp[maxLen];omega
 go_wp2_with (at_make
              refine wpList_make_full _ rfl (.tmp 8) (.tmp 8) 76 rfl w.heap.size 5 i0 (.int .u8 0) 1 Tryz.underlying76 hi0 hz0 hz1 .i64 .i64 m m m rfl rfl rfl rfl hby hml (qBL _) ?_;intro w1 hown1 hg1)
 have hown2:w1.ownsRow w.heap.size 5 1 (.slice (some ⟨w.heap.size,0,none⟩) m m) m (Bs (fz v m 0)):=by
  rw[fz_zero];have:=hown1;rw[Nat.mul_one] at this;have e:(madeCells (Value.int .u8 0).cells m).toList=List.replicate m (.int .u8 0):=toList_madeCells_one _ _;rw[e] at this;exact this
 have hb1:Below w.heap.size w w1:=(qBO _ w).grown hg1 (qBL _) (fun k hk=>by cases hk);clear hown1 hg1
 go_loopw [12] (fun i wr=>∃k:Nat,k≤m∧i= .int .i64 (k:Nat)∧wr.ownsRow w.heap.size 5 1 (.slice (some ⟨w.heap.size,0,none⟩) m m) m (Bs (fz v m k))∧Below w.heap.size w wr) (fun i _=>m-(intOf i).toNat)
 case atStart=>exact⟨0,qBU _,rfl,hown2,hb1⟩
 case round=>
  obtain⟨k,hk,rfl,hown,hbel⟩:=hrel;have HO:=qBK hown;clear hown2 hb1
  by_cases hlt:k<m
  · have hc:=hown.cellAt k (by omega)
    rw[qHq _ _ (by rw[qL5];exact hlt)] at hc;have hf:=hown.frozenAt k;clear hown
    go_wp2
    have hst:=HO.out.stored k (.int .u8 ((v / 256 ^ k % 256:Nat):Int));rw[fz_set] at hst;rw[qMq v k];exact⟨⟨k+1,by omega,by simp,hst.1,hbel.setCell (p:=⟨w.heap.size,k,none⟩) (qBL _) _⟩,by simp[intOf];omega⟩
  · obtain rfl:k=m:=by omega
    clear hown
    go_wp2
    go_ret;refine⟨_,rfl,?_,hbel⟩;rw[HM.out,←fz_all];exact HO.out
abbrev Typ:=Int×Int
structure Fn where
 args:List Typ
 ret:Typ
 locs:List Typ
 code:List Ins
structure Imp where
 args:List Typ
 ret:Typ
structure Mod where
 recs:List (List Typ)
 funcs:List Fn
 imps:List Imp
 ints:List Nat
 texts:List (List Nat)
noncomputable def eqB {α:Type} (a b:α):Bool:= @decide (a=b) (Classical.propDecidable _)
theorem qDb {a b:α}:eqB a b=true↔a=b:=by
 unfold eqB;exact @decide_eq_true_iff _ (Classical.propDecidable _)
theorem qEe (a:α):eqB a a=true:=qDb.2 rfl
theorem qHf {a b:α} (h:a≠b):eqB a b=false:=by
 cases e:eqB a b
 · rfl
 · exact absurd (qDb.1 e) h
theorem qMD {a b:α} (h:eqB a b=false):a≠b:=fun e=>by rw[e,qEe] at h;cases h
def tB (t:Typ):List Nat:=typB t.1 t.2
def iB (t:Ins):List Nat:=insB t.1 t.2.1 t.2.2
def lB {α:Type} (f:α→List Nat) (xs:List α):List Nat:=vb xs.length++(xs.map f).flatten
def fnB (f:Fn):List Nat:=lB tB f.args++(tB f.ret++(lB tB f.locs++lB iB f.code))
def impB (i:Imp):List Nat:=lB tB i.args++tB i.ret
def numB (n:Nat):List Nat:=fb n 8
def partsB (m:Mod):List (List Nat):=[lB (lB tB) m.recs,lB fnB m.funcs,lB impB m.imps,lB numB m.ints,lB pt m.texts]
def modB (m:Mod):List Nat:=joinB (partsB m)
def goodT (r:Int) (t:Typ):Bool:=goodB t.1 t.2 r
def goodIn (t:Ins):Bool:=goodI t.1 t.2.1 t.2.2
def witB {α:Type} (lo hi:Int) (g:α→Bool) (xs:List α):Bool:=decide (lo≤(xs.length:Int)∧(xs.length:Int)≤hi) && xs.all g
def recOk (r:Int) (ts:List Typ):Bool:=witB 0 6 (goodT r) ts
def fnOk (r:Int) (f:Fn):Bool:=witB 0 4 (goodT r) f.args && goodT r f.ret && witB 0 (8-(f.args.length:Int)) (goodT r) f.locs && witB 1 64 goodIn f.code
def impOk (r:Int) (i:Imp):Bool:=witB 0 4 (goodT r) i.args && goodT r i.ret
def shortB (s:List Nat):Bool:=decide (s.length≤32)
def fitB (m:Mod):Bool:=witB 0 8 (recOk m.recs.length) m.recs && witB 1 8 (fnOk m.recs.length) m.funcs && witB 0 8 (impOk m.recs.length) m.imps && decide (m.ints.length≤16) && witB 0 16 shortB m.texts
theorem qB0 {lo hi:Int} {g:α→Bool} {xs:List α}:witB lo hi g xs=true↔(lo≤(xs.length:Int)∧(xs.length:Int)≤hi)∧∀x∈xs,g x=true:=by simp[witB]
def PF {α:Type} (f:α→List Nat) (g:α→Prop):Prop:=∀x y r s,g x→g y→f x++r=f y++s→x=y∧r=s
theorem PF.row {g:α→Prop} (h:PF f g):∀(xs ys:List α) (r s:List Nat),xs.length=ys.length→(∀x∈xs,g x)→(∀y∈ys,g y)→(xs.map f).flatten++r=(ys.map f).flatten++s→xs=ys∧r=s:=by
 intro xs
 induction xs with
 |nil=>
  intro ys r s hl _ _ e
  cases ys with
  |nil=>exact⟨rfl,by simpa using e⟩
  |cons y ys=>simp at hl
 |cons x xs ih=>
  intro ys r s hl hx hy e
  cases ys with
  |nil=>simp at hl
  |cons y ys=>
   simp only[List.map_cons,List.flatten_cons,List.append_assoc] at e;obtain⟨rfl,e2⟩:=h x y _ _ (hx x (by simp)) (hy y (by simp)) e;obtain⟨rfl,rfl⟩:=ih ys r s (by simpa using hl) (fun z hz=>hx z (by simp[hz])) (fun z hz=>hy z (by simp[hz])) e2;exact⟨rfl,rfl⟩
theorem PF.list {g:α→Prop} (h:PF f g):PF (lB f) (fun xs=>xs.length<B64∧∀x∈xs,g x):=by
 intro xs ys r s hx hy e;unfold lB at e;rw[List.append_assoc,List.append_assoc] at e;obtain⟨e1,e2⟩:=qB3 hx.1 hy.1 e;exact h.row xs ys r s e1 hx.2 hy.2 e2
def HasN {α:Type} (f:α→List Nat) (g:α→Prop) (n:Nat) (xs:List Nat):Prop:=∃(ys:List α) (rest:List Nat),ys.length=n∧(∀y∈ys,g y)∧xs=(ys.map f).flatten++rest
def Has {α:Type} (f:α→List Nat) (g:α→Prop) (xs:List Nat):Prop:=∃(y:α) (rest:List Nat),g y∧xs=f y++rest
theorem PF.row_no {g:α→Prop} (h:PF f g) {ys:List α} {xs rest:List Nat} (hx:xs=(ys.map f).flatten++rest) (hy:∀y∈ys,g y) (hn:ys.length<n) (hno:¬Has f g rest):¬HasN f g n xs:=by
 rintro⟨zs,r,hl,hz,e⟩;have e2:(ys.map f).flatten++rest=((zs.take ys.length).map f).flatten++(((zs.drop ys.length).map f).flatten++r):=by
  rw[←hx,e,←List.append_assoc,←List.flatten_append,←List.map_append,List.take_append_drop]
 obtain⟨_,e3⟩:=h.row ys (zs.take ys.length) rest _ qK hy (fun z hz'=>hz z (List.mem_of_mem_take hz')) e2
 cases hd:zs.drop ys.length with
 |nil=>
  have:=congrArg List.length hd;simp at this
  omega
 |cons z zs'=>
  refine hno ⟨z,(zs'.map f).flatten++r,hz z (List.mem_of_mem_drop (by rw[hd];simp)),?_⟩;rw[e3,hd];simp
theorem PF.list_no {g:α→Prop} {xs rest:List Nat} (hn:n<B64) (hx:xs=vb n++rest) (hno:¬HasN f g n rest):¬Has (lB f) (fun ys=>ys.length<B64∧∀y∈ys,g y) xs:=by
 rintro⟨ys,r,⟨h1,h2⟩,e⟩;rw[hx] at e;unfold lB at e;rw[List.append_assoc] at e;obtain⟨e1,e2⟩:=qB3 hn h1 e;exact hno ⟨ys,r,e1.symm,h2,e2⟩
theorem qDQ {t:Typ} (hr:r≤8) (h:goodT r t=true):∃a b:Nat,t=((a:Int),(b:Int))∧a≤8∧b≤255:=by
 obtain⟨k,n⟩:=t;simp only[goodT,goodB] at h;split at h
 · rename_i hk
   exact zm
 · split at h
   · exact zm
   · split at h
     · exact zm
     · cases h
theorem qCr (hr:r≤8):PF tB (fun t=>goodT r t=true):=by
 intro x y p q hx hy e;obtain⟨a,b,rfl,ha,hb⟩:=qDQ hr hx;obtain⟨c,d,rfl,hc,hd⟩:=qDQ hr hy;simp only[tB,typB,Int.toNat_natCast,List.append_assoc] at e;obtain⟨rfl,e2⟩:=qB3 qj qj e;obtain⟨rfl,rfl⟩:=qB3 qj qj e2;exact⟨rfl,rfl⟩
theorem qNI:PF iB (fun t=>goodIn t=true):=by
 intro x y p q hx hy e;obtain⟨o,a,b⟩:=x;obtain⟨o',a',b'⟩:=y;obtain⟨o1,a1,b1,e1,e2,e3,_⟩:=qBm (op:=o) (a:=a) (b:=b) hx;obtain⟨o2,a2,b2,e4,e5,e6,_⟩:=qBm (op:=o') (a:=a') (b:=b') hy;subst e1 e2 e3 e4 e5 e6;obtain⟨rfl,rfl,rfl,rfl⟩:=qJ5 hx hy e;exact⟨rfl,rfl⟩
theorem pf_txt:PF pt (fun s=>s.length<B64):=by
 intro x y p q hx hy e;simp only[pt,List.append_assoc] at e;obtain⟨e1,e2⟩:=qB3 hx hy e;exact List.append_inj e2 e1
theorem qDx {f:Fn} (h:fnOk r f=true):f.args.length≤4∧f.args.length+f.locs.length≤8∧1≤f.code.length∧f.code.length≤64∧(∀t∈f.args,goodT r t=true)∧goodT r f.ret=true∧(∀t∈f.locs,goodT r t=true)∧∀t∈f.code,goodIn t=true:=by
 simp only[fnOk,Bool.and_eq_true,qB0] at h;obtain⟨⟨⟨⟨h1,h2⟩,h3⟩,h4,h5⟩,h6,h7⟩:=h;exact⟨by omega,by omega,by omega,by omega,h2,h3,h5,h7⟩
theorem qEB {i:Imp} (h:impOk r i=true):i.args.length≤4∧(∀t∈i.args,goodT r t=true)∧goodT r i.ret=true:=by
 simp only[impOk,Bool.and_eq_true,qB0] at h;exact⟨by omega,h.1.2,h.2⟩
theorem qD5 {ts:List Typ} (h:recOk r ts=true):ts.length≤6∧∀t∈ts,goodT r t=true:=by
 simp only[recOk,qB0] at h;exact⟨by omega,h.2⟩
theorem qKv (hr:r≤8):PF fnB (fun f=>fnOk r f=true):=by
 intro x y p q hx hy e;obtain⟨a1,a2,a3,a4,a5,a6,a7,a8⟩:=qDx hx;obtain⟨b1,b2,b3,b4,b5,b6,b7,b8⟩:=qDx hy;obtain⟨xa,xr,xl,xc⟩:=x;obtain⟨ya,yr,yl,yc⟩:=y;simp only[fnB,List.append_assoc] at*;have hB:(64:Nat)<B64:=by unfold B64;omega
 obtain⟨rfl,e1⟩:=(qCr hr).list xa ya _ _ ⟨by omega,a5⟩ ⟨by omega,b5⟩ e;obtain⟨rfl,e2⟩:=qCr hr xr yr _ _ a6 b6 e1;obtain⟨rfl,e3⟩:=(qCr hr).list xl yl _ _ ⟨by omega,a7⟩ ⟨by omega,b7⟩ e2;obtain⟨rfl,e4⟩:=qNI.list xc yc _ _ ⟨by omega,a8⟩ ⟨by omega,b8⟩ e3;exact⟨rfl,e4⟩
theorem qHS (hr:r≤8):PF impB (fun f=>impOk r f=true):=by
 intro x y p q hx hy e;obtain⟨a1,a2,a3⟩:=qEB hx;obtain⟨b1,b2,b3⟩:=qEB hy;obtain⟨xa,xr⟩:=x;obtain⟨ya,yr⟩:=y;simp only[impB,List.append_assoc] at*;have hB:(64:Nat)<B64:=by unfold B64;omega
 obtain⟨rfl,e1⟩:=(qCr hr).list xa ya _ _ ⟨by omega,a2⟩ ⟨by omega,b2⟩ e;obtain⟨rfl,e2⟩:=qCr hr xr yr _ _ a3 b3 e1;exact⟨rfl,e2⟩
theorem qJn (hr:r≤8):PF (lB tB) (fun ts=>recOk r ts=true):=by
 intro x y p q hx hy e;have hB:(64:Nat)<B64:=by unfold B64;omega
 obtain⟨a1,a2⟩:=qD5 hx;obtain⟨b1,b2⟩:=qD5 hy;exact(qCr hr).list x y p q ⟨by omega,a2⟩ ⟨by omega,b2⟩ e
theorem qMC {m:Nat} (hn:n<B64) (hm:m<B64) (h:fb n 8=fb m 8):n=m:=by
 have e:=congrArg le h;have h8:(256:Nat) ^ 8=B64:=by decide
 rw[le_fb,le_fb,h8,Nat.mod_eq_of_lt hn,Nat.mod_eq_of_lt hm] at e;exact e
theorem qNH:PF numB (·<B64):=by
 intro x y p q hx hy e;obtain⟨e1,e2⟩:=List.append_inj e (by simp[numB,qDT]);exact⟨qMC hx hy e1,e2⟩
theorem qCo (f:α→List Nat) (xs:List α) (M:Nat) (h:∀x∈xs,(f x).length≤M) (hl:xs.length<B64):(lB f xs).length≤10+xs.length*M:=by
 have h1:=qCq 9 xs.length (by unfold B64 at hl;simp;omega);have h2:∀zs:List α,(∀x∈zs,(f x).length≤M)→((zs.map f).flatten).length≤zs.length*M:=by
  intro zs
  induction zs with
  |nil=>simp
  |cons z zs ih=>
   intro hz;have e1:=hz z (by simp);have e2:=ih fun x hx=>hz x zN;simp only[List.map_cons,List.flatten_cons,List.length_append,List.length_cons,Nat.succ_mul]
   omega
 have h3:=h2 xs h;simp only[lB,List.length_append]
 omega
theorem qCY (f:α→List Nat) (xs:List α) (h:∀x∈xs,∀z∈f x,z<256):∀z∈lB f xs,z<256:=by
 intro z hz;simp only[lB,List.mem_append,List.mem_flatten,List.mem_map] at hz;rcases hz with hz|⟨l,⟨x,hx,rfl⟩,hz⟩
 · exact qC2 _ z hz
 · exact h x hx z hz
theorem qDK (t:Typ):∀z∈tB t,z<256:=by
 intro z hz;simp only[tB,typB,List.mem_append] at hz;rcases hz with hz|hz<;>exact qC2 _ z hz
theorem qN7 (t:Ins):∀z∈iB t,z<256:=qFw _ _ _
theorem qL8 (f:Fn):∀z∈fnB f,z<256:=by
 intro z hz;simp only[fnB,List.mem_append] at hz;rcases hz with hz|hz|hz|hz
 · exact qCY tB _ (fun x _=>qDK x) z hz
 · exact qDK _ z hz
 · exact qCY tB _ (fun x _=>qDK x) z hz
 · exact qCY iB _ (fun x _=>qN7 x) z hz
theorem qJ7 (f:Imp):∀z∈impB f,z<256:=by
 intro z hz;simp only[impB,List.mem_append] at hz;rcases hz with hz|hz
 · exact qCY tB _ (fun x _=>qDK x) z hz
 · exact qDK _ z hz
theorem qJq (n:Nat):∀z∈numB n,z<256:=qOS n 8
theorem qNE (s:List Nat) (h:∀z∈s,z<256):∀z∈pt s,z<256:=by
 intro z hz;simp only[pt,List.mem_append] at hz;rcases hz with hz|hz
 · exact qC2 _ z hz
 · exact h z hz
theorem qJw (m:Mod) (h:∀s∈m.texts,∀z∈s,z<256):∀z∈modB m,z<256:=by
 refine qIn _ fun j hj z hz=> ?_
 match j,hj with
 |0,_=>exact qCY _ _ (fun x _=>qCY tB _ (fun t _=>qDK t)) z (by simpa[partsB] using hz)
 |1,_=>exact qCY _ _ (fun x _=>qL8 x) z (by simpa[partsB] using hz)
 |2,_=>exact qCY _ _ (fun x _=>qJ7 x) z (by simpa[partsB] using hz)
 |3,_=>exact qCY _ _ (fun x _=>qJq x) z (by simpa[partsB] using hz)
 |4,_=>exact qCY _ _ (fun x hx=>qNE x (h x hx)) z (by simpa[partsB] using hz)
 |j+5,hj=>exact absurd hj (by simp[partsB])
theorem qFY {t:Typ} (hr:r≤8) (h:goodT r t=true):(tB t).length≤4:=by
 obtain⟨a,b,rfl,ha,hb⟩:=qDQ hr h;have h1:=qCq 1 a qK;have h2:=qCq 1 b qK;simp[tB,typB]
 omega
theorem qKB (t:Ins):(iB t).length≤5:=qIr _ _ _
theorem qDC {ts:List Typ} (hr:r≤8) (hl:ts.length≤8) (h:∀t∈ts,goodT r t=true):(lB tB ts).length≤42:=by
 have:=qCo tB ts 4 (fun t ht=>qFY hr (h t ht)) qj
 omega
theorem fnB_len {f:Fn} (hr:r≤8) (h:fnOk r f=true):(fnB f).length≤500:=by
 obtain⟨a1,a2,a3,a4,a5,a6,a7,a8⟩:=qDx h;have h1:=qDC hr (by omega) a5;have h2:=qFY hr a6;have h3:=qDC hr (by omega) a7;have h4:=qCo iB f.code 5 (fun t _=>qKB t) qj;simp only[fnB,List.length_append]
 omega
theorem qN3 {f:Imp} (hr:r≤8) (h:impOk r f=true):(impB f).length≤50:=by
 obtain⟨a1,a2,a3⟩:=qEB h;have h1:=qDC hr (by omega) a2;have h2:=qFY hr a3;simp only[impB,List.length_append]
 omega
structure Fit (m:Mod):Prop where
 r8:(m.recs.length:Int)≤8
 recs:∀t∈m.recs,recOk m.recs.length t=true
 f1:1≤m.funcs.length
 f8:m.funcs.length≤8
 funcs:∀f∈m.funcs,fnOk m.recs.length f=true
 i8:m.imps.length≤8
 imps:∀f∈m.imps,impOk m.recs.length f=true
 n16:m.ints.length≤16
 t16:m.texts.length≤16
 texts:∀s∈m.texts,s.length≤32
theorem qBw {m:Mod}:fitB m=true↔Fit m:=by
 simp only[fitB,Bool.and_eq_true,qB0,decide_eq_true_eq]
 constructor
 · rintro⟨⟨⟨⟨⟨h1,h2⟩,h3,h4⟩,h5,h6⟩,h7⟩,h8,h9⟩
   exact⟨h1.2,h2,by omega,by omega,h4,by omega,h6,h7,by omega,fun s hs=>by simpa[shortB] using h9 s hs⟩
 · rintro⟨h1,h2,h3,h4,h5,h6,h7,h8,h9,h10⟩
   exact⟨⟨⟨⟨⟨by omega,h2⟩,by omega,h5⟩,by omega,h7⟩,h8⟩,by omega,fun s hs=>by simpa[shortB] using h10 s hs⟩
theorem Fit.parts_len {m:Mod} (h:Fit m):∀j,j<(partsB m).length→((partsB m)[j]?.getD []).length≤5000:=by
 have hB:(64:Nat)<B64:=by unfold B64;omega
 have hr:=h.r8;have b0:=qCo (lB tB) m.recs 42 (fun x hx=>by have:=qD5 (h.recs x hx);exact qDC h.r8 (by omega) this.2) (by omega);have b1:=qCo fnB m.funcs 500 (fun x hx=>fnB_len h.r8 (h.funcs x hx)) (by have:=h.f8;omega);have b2:=qCo impB m.imps 50 (fun x hx=>qN3 h.r8 (h.imps x hx)) (by have:=h.i8;omega);have b3:=qCo numB m.ints 8 (fun x _=>by simp[numB,qDT]) (by have:=h.n16;omega);have b4:=qCo pt m.texts 42 (fun x hx=>by have h1:=h.texts x hx;have h2:=qCq 9 x.length qK;simp[pt];omega) (by have:=h.t16;omega);have:=h.f8;have:=h.i8;have:=h.n16;have:=h.t16;intro j hj
 match j,hj with
 |0,_=>simp[partsB];omega
 |1,_=>simp[partsB];omega
 |2,_=>simp[partsB];omega
 |3,_=>simp[partsB];omega
 |4,_=>simp[partsB];omega
 |j+5,hj=>exact absurd hj (by simp[partsB])
theorem Fit.len {m:Mod} (h:Fit m):(modB m).length≤30000:=by
 have:=qIo (partsB m) 5000 qj (by simp[partsB];unfold B64;omega) h.parts_len;simp[partsB] at this;simp[modB,partsB]
 omega
theorem qJv {a b:Mod} (ha:Fit a) (hb:Fit b) (hia:∀n∈a.ints,n<B64) (hib:∀n∈b.ints,n<B64) (h:modB a=modB b):a=b:=by
 have hB:(64:Nat)<B64:=by unfold B64;omega
 have hp:=qDw (xs:=modB a) (by have:=ha.len;unfold B64;omega) (xss:=partsB a) (yss:=partsB b) rfl h;obtain⟨ar,af,ai,an,ax⟩:=a;obtain⟨br,bf,bi,bn,bx⟩:=b;simp only[partsB,List.cons.injEq,and_true] at hp;obtain⟨e0,e1,e2,e3,e4⟩:=hp;have l0:ar.length=br.length:=by
  have h1:=ha.r8;have h2:=hb.r8;simp only[lB] at e0 h1 h2;exact(qB3 (by omega) (by omega) e0).1
 have r8:=ha.r8;simp only at r8;have hbr:∀t∈br,recOk (ar.length:Int) t=true:=by rw[l0];exact hb.recs
 have hbf:∀t∈bf,fnOk (ar.length:Int) t=true:=by rw[l0];exact hb.funcs
 have hbi:∀t∈bi,impOk (ar.length:Int) t=true:=by rw[l0];exact hb.imps
 have f1:=ha.f8;have f2:=hb.f8;have i1:=ha.i8;have i2:=hb.i8;have n1:=ha.n16;have n2:=hb.n16;have t1:=ha.t16;have t2:=hb.t16;simp only at f1 f2 i1 i2 n1 n2 t1 t2;obtain⟨rfl,_⟩:=(qJn r8).list ar br [] [] ⟨by omega,ha.recs⟩ ⟨by omega,hbr⟩ (by rw[e0]);obtain⟨rfl,_⟩:=(qKv r8).list af bf [] [] ⟨by omega,ha.funcs⟩ ⟨by omega,hbf⟩ (by rw[e1]);obtain⟨rfl,_⟩:=(qHS r8).list ai bi [] [] ⟨by omega,ha.imps⟩ ⟨by omega,hbi⟩ (by rw[e2]);obtain⟨rfl,_⟩:=qNH.list an bn [] [] ⟨by omega,hia⟩ ⟨by omega,hib⟩ (by rw[e3]);obtain⟨rfl,_⟩:=pf_txt.list ax bx [] [] ⟨by omega,fun s hs=>by have:=ha.texts s hs;omega⟩ ⟨by omega,fun s hs=>by have:=hb.texts s hs;omega⟩ (by rw[e4])
 rfl
def C4 (b:Nat) (v0 v1 v2 v3:Value) (w:World):Prop:=w.cell? ⟨b,0,none⟩=some v0∧w.cell? ⟨b,1,none⟩=some v1∧w.cell? ⟨b,2,none⟩=some v2∧w.cell? ⟨b,3,none⟩=some v3
theorem C4.below {b:Nat} (h:C4 b v0 v1 v2 v3 w) (hb:Below B w w') (hB:b<B):C4 b v0 v1 v2 v3 w':=by
 have e:∀i u,w.cell? ⟨b,i,none⟩=some u→w'.cell? ⟨b,i,none⟩=some u:=fun i u hu=>(hb.cell (p:=⟨b,i,none⟩) hB).trans hu;exact⟨e _ _ h.1,e _ _ h.2.1,e _ _ h.2.2.1,e _ _ h.2.2.2⟩
def C7 (b:Nat) (v0 v1 v2 v3 v4 v5 v6:Value) (w:World):Prop:=w.cell? ⟨b,0,none⟩=some v0∧w.cell? ⟨b,1,none⟩=some v1∧w.cell? ⟨b,2,none⟩=some v2∧w.cell? ⟨b,3,none⟩=some v3∧w.cell? ⟨b,4,none⟩=some v4∧w.cell? ⟨b,5,none⟩=some v5∧w.cell? ⟨b,6,none⟩=some v6
theorem C7.below {b:Nat} {v4 v5 v6:Value} (h:C7 b v0 v1 v2 v3 v4 v5 v6 w) (hb:Below B w w') (hB:b<B):C7 b v0 v1 v2 v3 v4 v5 v6 w':=by
 have e:∀i u,w.cell? ⟨b,i,none⟩=some u→w'.cell? ⟨b,i,none⟩=some u:=fun i u hu=>(hb.cell (p:=⟨b,i,none⟩) hB).trans hu;exact⟨e _ _ h.1,e _ _ h.2.1,e _ _ h.2.2.1,e _ _ h.2.2.2.1,e _ _ h.2.2.2.2.1,e _ _ h.2.2.2.2.2.1,e _ _ h.2.2.2.2.2.2⟩
def typL:Lay Typ where
 k:=2
 R _ _ cs t:=cs=[.int .i64 t.1,.int .i64 t.2]∧I64 t.1∧I64 t.2
 len:=by rintro S w cs x ⟨rfl,_⟩;rfl
 keep:=by rintro S w w' cs x h _;exact h
 wide:=by rintro S T w cs x h _;exact h
 one:=by rintro S w cs x ⟨rfl,_⟩ u hu;simp at hu;rcases hu with rfl|rfl<;>rfl
def insL:Lay Ins where
 k:=3
 R _ _ cs t:=cs=[.int .i64 t.1,.int .i64 t.2.1,.int .i64 t.2.2]∧I64 t.1∧I64 t.2.1∧I64 t.2.2
 len:=by rintro S w cs x ⟨rfl,_⟩;rfl
 keep:=by rintro S w w' cs x h _;exact h
 wide:=by rintro S T w cs x h _;exact h
 one:=by rintro S w cs x ⟨rfl,_⟩ u hu;simp at hu;rcases hu with rfl|rfl|rfl<;>rfl
def strB (s:ByteArray):List Nat:=s.data.toList.map UInt8.toNat
def strL:Lay (List Nat) where
 k:=1
 R _ _ cs xs:=∃s,cs=[.string s]∧xs=strB s
 len:=by rintro S w cs x ⟨s,rfl,_⟩;rfl
 keep:=by rintro S w w' cs x h _;exact h
 wide:=by rintro S T w cs x h _;exact h
 one:=by rintro S w cs x ⟨s,rfl,_⟩ u hu;simp at hu;subst hu;rfl
abbrev tysL:Lay (List Typ):=slL typL
abbrev codL:Lay (List Ins):=slL insL
def fnL:Lay Fn where
 k:=5
 R S w cs f:=∃v0 v1 v2,cs=[v0,.int .i64 f.ret.1,.int .i64 f.ret.2,v1,v2]∧I64 f.ret.1∧I64 f.ret.2∧tysL.R S w [v0] f.args∧tysL.R S w [v1] f.locs∧codL.R S w [v2] f.code
 len:=by rintro S w cs x ⟨v0,v1,v2,rfl,_⟩;rfl
 keep:=by rintro S w w' cs x ⟨v0,v1,v2,rfl,h1,h2,h3,h4,h5⟩ hk;exact⟨v0,v1,v2,rfl,h1,h2,tysL.keep h3 hk,tysL.keep h4 hk,codL.keep h5 hk⟩
 wide:=by rintro S T w cs x ⟨v0,v1,v2,rfl,h1,h2,h3,h4,h5⟩ hk;exact⟨v0,v1,v2,rfl,h1,h2,tysL.wide h3 hk,tysL.wide h4 hk,codL.wide h5 hk⟩
 one:=by
  rintro S w cs x ⟨v0,v1,v2,rfl,h1,h2,h3,h4,h5⟩ u hu;simp at hu;rcases hu with rfl|rfl|rfl|rfl|rfl
  · exact tysL.one h3 _ (by simp)
  · rfl
  · rfl
  · exact tysL.one h4 _ (by simp)
  · exact codL.one h5 _ (by simp)
def impL:Lay Imp where
 k:=3
 R S w cs f:=∃v0,cs=[v0,.int .i64 f.ret.1,.int .i64 f.ret.2]∧I64 f.ret.1∧I64 f.ret.2∧tysL.R S w [v0] f.args
 len:=by rintro S w cs x ⟨v0,rfl,_⟩;rfl
 keep:=by rintro S w w' cs x ⟨v0,rfl,h1,h2,h3⟩ hk;exact⟨v0,rfl,h1,h2,tysL.keep h3 hk⟩
 wide:=by rintro S T w cs x ⟨v0,rfl,h1,h2,h3⟩ hk;exact⟨v0,rfl,h1,h2,tysL.wide h3 hk⟩
 one:=by
  rintro S w cs x ⟨v0,rfl,h1,h2,h3⟩ u hu;simp at hu;rcases hu with rfl|rfl|rfl
  · exact tysL.one h3 _ (by simp)
  · rfl
  · rfl
def modL:Lay Mod where
 k:=5
 R S w cs m:=∃v0 v1 v2 v3 v4,cs=[v0,v1,v2,v3,v4]∧(slL tysL).R S w [v0] m.recs∧(slL fnL).R S w [v1] m.funcs∧(slL impL).R S w [v2] m.imps∧(slL numL).R S w [v3] m.ints∧(slL strL).R S w [v4] m.texts
 len:=by rintro S w cs x ⟨v0,v1,v2,v3,v4,rfl,_⟩;rfl
 keep:=by rintro S w w' cs x ⟨v0,v1,v2,v3,v4,rfl,h0,h1,h2,h3,h4⟩ hk;exact⟨v0,v1,v2,v3,v4,rfl,(slL tysL).keep h0 hk,(slL fnL).keep h1 hk,(slL impL).keep h2 hk,(slL numL).keep h3 hk,(slL strL).keep h4 hk⟩
 wide:=by rintro S T w cs x ⟨v0,v1,v2,v3,v4,rfl,h0,h1,h2,h3,h4⟩ hk;exact⟨v0,v1,v2,v3,v4,rfl,(slL tysL).wide h0 hk,(slL fnL).wide h1 hk,(slL impL).wide h2 hk,(slL numL).wide h3 hk,(slL strL).wide h4 hk⟩
 one:=by
  rintro S w cs x ⟨v0,v1,v2,v3,v4,rfl,h0,h1,h2,h3,h4⟩ u hu;simp at hu;rcases hu with rfl|rfl|rfl|rfl|rfl
  · exact(slL tysL).one h0 _ (by simp)
  · exact(slL fnL).one h1 _ (by simp)
  · exact(slL impL).one h2 _ (by simp)
  · exact(slL numL).one h3 _ (by simp)
  · exact(slL strL).one h4 _ (by simp)
theorem qJZ (s:ByteArray):∀z∈strB s,z<256:=by
 intro z hz;obtain⟨x,_,rfl⟩:=List.mem_map.1 hz;exact x.toNat_lt
theorem qFZ (s:ByteArray):(strB s).length=s.size:=by simp[strB]
theorem qJY (s:ByteArray):Lib.strCells s=Bs (strB s):=by simp[Lib.strCells,Bs,strB]
def Puts (ys:List Nat) (w:World) (e:Ending) (w':World):Prop:=∃u,e= .returned u∧w'.ownsRow w.heap.size 5 1 u ys.length (Bs ys)∧Below w.heap.size w w'
theorem qFG (w:World) {ops:Array Oper} {rest:List Oper} {o:Oper} {a:Act} {Q:Exit→Act→World→Prop} (hgd:o.guard=none) (sl x:Operand)
 (ho:o.op= .call {callee:= .builtin .append,args:= #[sl,x],argTypes:= #[76,9]})
 (base:Nat) (v:Value) (n:Nat) (xs:List Nat) (hs:a.eval sl=v) (hown:w.ownsRow base 5 1 v n (Bs xs)) (s:ByteArray) (hx:a.eval x= .string s)
 (hbig:n+(strB s).length≤140737488355328) (hbase:base≤w.heap.size)
 (h:∀v' w',w'.ownsRow base 5 1 v' (n+(strB s).length) (Bs (xs++strB s))→w.grownBy w' v.ownBlock→wpList Tryz.prog ops Q rest (a.put o.dst v') w'):wpList Tryz.prog ops Q (o::rest) a w:=by
 obtain⟨i0,hi0,hz0,hz1,hz2⟩:=info_parts qFK;rw[qFZ] at hbig h;refine Lib.wpList_append_own_string _ hgd sl x 76 9 ho base 5 i0 Tryz.underlying76 Tryz.underlying9 hi0 hz0 hz1 hz2 v n (Bs xs) hs hown s hx zM hbig hbase ?_;intro v' w' h1 h2 _;rw[qJY,←qOw] at h1;exact h v' w' h1 h2
def C5 (b:Nat) (v0 v1 v2 v3 v4:Value) (w:World):Prop:=w.cell? ⟨b,0,none⟩=some v0∧w.cell? ⟨b,1,none⟩=some v1∧w.cell? ⟨b,2,none⟩=some v2∧w.cell? ⟨b,3,none⟩=some v3∧w.cell? ⟨b,4,none⟩=some v4
theorem C5.below {b:Nat} {v4:Value} (h:C5 b v0 v1 v2 v3 v4 w) (hb:Below B w w') (hB:b<B):C5 b v0 v1 v2 v3 v4 w':=
 ⟨(hb.cell (p:=⟨b,0,none⟩) hB).trans h.1,(hb.cell (p:=⟨b,1,none⟩) hB).trans h.2.1,(hb.cell (p:=⟨b,2,none⟩) hB).trans h.2.2.1,(hb.cell (p:=⟨b,3,none⟩) hB).trans h.2.2.2.1,(hb.cell (p:=⟨b,4,none⟩) hB).trans h.2.2.2.2⟩
theorem qC9 (f:α→List Nat) (xs:List α) (k:Nat) (x:α) (h:xs[k]? =some x):((xs.take (k+1)).map f).flatten=((xs.take k).map f).flatten++f x:=by
 obtain⟨hk,rfl⟩:=qBM.1 h;rw[qBW hk,List.map_append,List.flatten_append];simp
theorem qCZ (f:α→List Nat) (xs:List α) (k:Nat):((xs.take k).map f).flatten.length≤(xs.map f).flatten.length:=by
 conv=>rhs;rw[←List.take_append_drop k xs,List.map_append,List.flatten_append]
 rw[List.length_append]
 omega
def fn0:Fn:=⟨[],(1,0),[],[(26,0,0)]⟩
theorem qCA {w1:World} {m:Mod} (h:modL.R (·<w.heap.size) w cs m) (hb:Below w.heap.size w w1):modL.R (·<w1.heap.size) w1 cs m:=
 modL.wide (modL.keep h fun b hb1=>hb.block b hb1) fun _ hb1=>qBN hb1 hb.size
theorem qCj {m:Mod} (h:modL.R S w cs m):∃A0 A1 A2 A3 A4 n0 n1 n2 n3 n4 c0 c1 c2 c3 c4,cs=[.slice A0 n0 c0,.slice A1 n1 c1,.slice A2 n2 c2,.slice A3 n3 c3,.slice A4 n4 c4]:=by
 obtain⟨_,_,_,_,_,rfl,⟨A0,d0,e0,-⟩,⟨A1,d1,e1,-⟩,⟨A2,d2,e2,-⟩,⟨A3,d3,e3,-⟩,⟨A4,d4,e4,-⟩⟩:=h;simp only[List.cons.injEq,and_true] at e0 e1 e2 e3 e4;subst e0 e1 e2 e3 e4;exact⟨A0,A1,A2,A3,A4,_,_,_,_,_,d0,d1,d2,d3,d4,rfl⟩
def mE:Mod:=⟨[],[],[],[],[]⟩
theorem qKy:(Tryz.prog.info? 78).map (fun i=>(i.zero,i.size,i.bytes))=some (some (.agg #[.int .i64 0,.int .i64 0,.slice none 0 0,.slice none 0 0]),4,64):=by kernel_rfl
theorem Row.push {P0 P1:Nat→Prop} {v v':Value} {o:Ob} (h:Row S tag w v css O) (hS:∀b,S b→b<w.heap.size)
 (hob:Obj1 P0 P1 w cs o) (p0:∀b,P0 b→b<w.heap.size∧¬S b) (p1:∀b,P1 b→b<w.heap.size∧¬S b) (p01:∀b,P0 b→¬P1 b)
 (hown:w'.ownsRow 0 78 4 v' (O.length+1) (css.flatten++cs)) (hg:w.grownBy w' v.ownBlock) (hv:v'.ownBlock=v.ownBlock∨v'.ownBlock=some w.heap.size):
 ∃tag',Row (fun b=>S b∨P0 b∨P1 b∨(w.heap.size≤b∧b<w'.heap.size)) tag' w' v' (css++[cs]) (O++[o])∧∀b,S b→tag' b=tag b:=by
 classical
 obtain⟨hl,hown0,hb,hR⟩:=h;have hT:∃tag':Nat→Nat,(∀b,S b→tag' b=tag b)∧(∀b,P0 b→tag' b=2*O.length+2)∧(∀b,P1 b→tag' b=2*O.length+3)∧tag' w.heap.size=1:=by
  refine⟨fun b=>if S b then tag b else if P0 b then 2*O.length+2 else if P1 b then 2*O.length+3 else 1,fun b hb=>by simp[hb],fun b hb=> ?_,fun b hb=> ?_,?_⟩
  · show(if S b then tag b else if P0 b then _ else _)=_
    rw[if_neg (p0 b hb).2,if_pos hb]
  · show(if S b then tag b else if P0 b then _ else if P1 b then _ else _)=_
    rw[if_neg (p1 b hb).2,if_neg (fun q=>p01 b q hb),if_pos hb]
  · show(if S w.heap.size then _ else if P0 w.heap.size then _ else if P1 w.heap.size then _ else _)=_
    rw[if_neg (fun q=>Nat.lt_irrefl _ (hS _ q)),if_neg (fun q=>Nat.lt_irrefl _ (p0 _ q).1),if_neg (fun q=>Nat.lt_irrefl _ (p1 _ q).1)]
 obtain⟨tag',t1,t2,t3,t4⟩:=hT;have hne:∀b,b<w.heap.size→v.ownBlock≠some b→w'.heap[b]? =w.heap[b]? :=fun b h1 h2=>hg.block b h1 fun e=>h2 e.symm;have hns:∀b,¬S b→v.ownBlock≠some b:=fun b h1 e=>h1 (hb b e).1;refine⟨tag',⟨by simp[hl],by simpa using hown,fun b e=> ?_,fun j x ds e1 e2=> ?_⟩,t1⟩
 · rcases hv with e'|e'
   · rw[e'] at e
     obtain⟨q1,q2⟩:=hb b e;exact⟨.inl q1,by rw[t1 b q1];exact q2⟩
   · rw[e'] at e
     injection e with e;subst e;have hlt:=hown.lt _ e';exact⟨.inr (.inr (.inr ⟨qBL _,hlt.2⟩)),t4⟩
 · rcases Nat.lt_or_ge j O.length with hj|hj
   · rw[List.getElem?_append_left hj] at e1
     rw[List.getElem?_append_left (by omega)] at e2;have q:=hR j x ds e1 e2;refine(q.keep (w':=w') (fun b hb'=>hne b (hS b hb'.1) fun e=> ?_) fun b hb'=>hne b (hS b hb'.1) fun e=> ?_).wide (fun b _ hb'=>⟨.inl hb'.1,by rw[t1 b hb'.1];exact hb'.2⟩) fun b _ hb'=>⟨.inl hb'.1,by rw[t1 b hb'.1];exact hb'.2⟩
     · have:=(hb b e).2;omega
     · have:=(hb b e).2;omega
   · rw[List.getElem?_append_right hj] at e1
     rw[List.getElem?_append_right (by omega),hl] at e2;have e0:j-O.length=0:=by
      rcases Nat.eq_zero_or_pos (j-O.length) with h|h
      · exact h
      · rw[List.getElem?_eq_none qK] at e1
        cases e1
     rw[e0] at e1 e2;simp at e1 e2;subst e1 e2;have ej:j=O.length:=by omega
     subst ej;refine(hob.keep (w':=w') (fun b hb'=>hne b (p0 b hb').1 (hns b (p0 b hb').2)) fun b hb'=>hne b (p1 b hb').1 (hns b (p1 b hb').2)).wide (fun b _ hb'=>⟨.inr (.inl hb'),t2 b hb'⟩) fun b _ hb'=>⟨.inr (.inr (.inl hb')),t3 b hb'⟩
def put4 (w:World) (g i:Nat) (u0 u1 u2 u3:Value):World:=(((w.setCell ⟨g,i,none⟩ u0).setCell ⟨g,i+1,none⟩ u1).setCell ⟨g,i+2,none⟩ u2).setCell ⟨g,i+3,none⟩ u3
theorem qDZ (w:World) (g i:Nat) (u0 u1 u2 u3:Value) (b:Nat) (hb:b≠g):(put4 w g i u0 u1 u2 u3).heap[b]? =w.heap[b]? :=by
 unfold put4;rw[qBP _ _ _ _ hb,qBP _ _ _ _ hb,qBP _ _ _ _ hb,qBP _ _ _ _ hb]
theorem qGf (w:World) (g i:Nat) (u0 u1 u2 u3:Value):(put4 w g i u0 u1 u2 u3).heap.size=w.heap.size:=by simp[put4,World.setCell]
theorem qLb (w:World) (g i:Nat) (u0 u1 u2 u3:Value):Only g w (put4 w g i u0 u1 u2 u3):=qCX (qCX (qCX (qCX (qBv g w) _ _) _ _) _ _) _ _
theorem qNC {base ty:Nat} (hk:∀ds∈css,ds.length=4) (hj:css[j]? =some cs) (h:w.ownsRow base ty 4 (.slice (some ⟨g,0,none⟩) n c) n css.flatten) (u0 u1 u2 u3:Value):
 (put4 w g (j*4) u0 u1 u2 u3).ownsRow base ty 4 (.slice (some ⟨g,0,none⟩) n c) n (css.set j [u0,u1,u2,u3]).flatten:=by
 have h4:cs.length=4:=hk cs (qBQ hj);have hjl:=(qBM.1 hj).1;have s0:=(h.stored (j*4) u0).1;rw[show j*4=j*4+0 from rfl,qCe hk hj (by omega) u0,Nat.add_zero] at s0;have k1:∀ds∈css.set j (cs.set 0 u0),ds.length=4:=fun ds hd=>by
  rcases List.mem_or_eq_of_mem_set hd with h|h
  · exact hk ds h
  · rw[h,List.length_set];exact h4
 have j1:(css.set j (cs.set 0 u0))[j]? =some (cs.set 0 u0):=by rw[List.getElem?_set_self hjl]
 have s1:=(s0.stored (j*4+1) u1).1;rw[qCe k1 j1 (by omega) u1,List.set_set] at s1;have k2:∀ds∈css.set j ((cs.set 0 u0).set 1 u1),ds.length=4:=fun ds hd=>by
  rcases List.mem_or_eq_of_mem_set hd with h|h
  · exact hk ds h
  · rw[h,List.length_set,List.length_set];exact h4
 have j2:(css.set j ((cs.set 0 u0).set 1 u1))[j]? =some ((cs.set 0 u0).set 1 u1):=by rw[List.getElem?_set_self hjl]
 have s2:=(s1.stored (j*4+2) u2).1;rw[qCe k2 j2 (by omega) u2,List.set_set] at s2;have k3:∀ds∈css.set j (((cs.set 0 u0).set 1 u1).set 2 u2),ds.length=4:=fun ds hd=>by
  rcases List.mem_or_eq_of_mem_set hd with h|h
  · exact hk ds h
  · rw[h,List.length_set,List.length_set,List.length_set];exact h4
 have j3:(css.set j (((cs.set 0 u0).set 1 u1).set 2 u2))[j]? =some (((cs.set 0 u0).set 1 u1).set 2 u2):=by rw[List.getElem?_set_self hjl]
 have s3:=(s2.stored (j*4+3) u3).1;rw[qCe k3 j3 (by omega) u3,List.set_set] at s3;have e:(((cs.set 0 u0).set 1 u1).set 2 u2).set 3 u3=[u0,u1,u2,u3]:=by
  match cs,h4 with
  |[a,b,c,d],_=>rfl
 rw[e] at s3;exact s3
theorem Row.put {P0 P1:Nat→Prop} {o:Ob} {u0 u1 u2 u3:Value} (h:Row S tag w (.slice (some ⟨g,0,none⟩) n c) css O) (hj:j<O.length)
 (hob:Obj1 P0 P1 w [u0,u1,u2,u3] o) (p0:∀b,P0 b→¬S b) (p1:∀b,P1 b→¬S b) (p01:∀b,P0 b→¬P1 b):
 ∃tag',Row (fun b=>S b∨P0 b∨P1 b) tag' (put4 w g (j*4) u0 u1 u2 u3) (.slice (some ⟨g,0,none⟩) n c) (css.set j [u0,u1,u2,u3]) (O.set j o)∧∀b,S b→tag' b=tag b:=by
 classical
 have h4:=h.len4;obtain⟨hl,hown,hb,hR⟩:=h;have hT:∃tag':Nat→Nat,(∀b,S b→tag' b=tag b)∧(∀b,P0 b→tag' b=2*j+2)∧(∀b,P1 b→tag' b=2*j+3):=by
  refine⟨fun b=>if S b then tag b else if P0 b then 2*j+2 else 2*j+3,fun b hb=>by simp[hb],fun b hb=> ?_,fun b hb=> ?_⟩
  · show(if S b then tag b else if P0 b then _ else _)=_
    rw[if_neg (p0 b hb),if_pos hb]
  · show(if S b then tag b else if P0 b then _ else _)=_
    rw[if_neg (p1 b hb),if_neg (fun q=>p01 b q hb)]
 obtain⟨tag',t1,t2,t3⟩:=hT;have hg:=hb g rfl;have hjl:j<css.length:=by rw[hl];exact hj
 have hjc:css[j]? =some (css[j]'hjl):=List.getElem?_eq_getElem _;have en:n=O.length:=by
  obtain⟨g',c',e,-⟩:=qCQ hown (by omega);simp only[Value.slice.injEq] at e;exact e.2.1
 have hown':(put4 w g (j*4) u0 u1 u2 u3).ownsRow 0 78 4 (.slice (some ⟨g,0,none⟩) n c) n (css.set j [u0,u1,u2,u3]).flatten:=qNC h4 hjc (by rw[en];rw[en] at hown;exact hown) u0 u1 u2 u3;refine⟨tag',⟨by simp[hl],by rw[List.length_set,←en];exact hown',fun b e=>⟨.inl (hb b e).1,by rw[t1 b (hb b e).1];exact(hb b e).2⟩,fun j' o' cs' h1 h2=> ?_⟩,t1⟩;rw[List.getElem?_set] at h1 h2
 by_cases e:j=j'
 · subst e
   rw[if_pos rfl,if_pos hj] at h1;rw[if_pos rfl,if_pos (by omega)] at h2;injection h1 with h1;injection h2 with h2;subst h1 h2;exact(hob.keep (w':=put4 w g (j*4) u0 u1 u2 u3) (fun b hb'=>qDZ w g _ _ _ _ _ b (fun q=>p0 b hb' (by rw[q];exact hg.1))) fun b hb'=>qDZ w g _ _ _ _ _ b (fun q=>p1 b hb' (by rw[q];exact hg.1))).wide (fun b _ hb'=>⟨.inr (.inl hb'),t2 b hb'⟩) fun b _ hb'=>⟨.inr (.inr hb'),t3 b hb'⟩
 · rw[if_neg e] at h1 h2
   exact((hR j' o' cs' h1 h2).keep (w':=put4 w g (j*4) u0 u1 u2 u3) (fun b hb'=>qDZ w g _ _ _ _ _ b (fun q=>by subst q;have:=hg.2;omega)) fun b hb'=>qDZ w g _ _ _ _ _ b (fun q=>by subst q;have:=hg.2;omega)).wide (fun b _ hb'=>⟨.inl hb'.1,by rw[t1 b hb'.1];exact hb'.2⟩) fun b _ hb'=>⟨.inl hb'.1,by rw[t1 b hb'.1];exact hb'.2⟩
def zer4:List Value:=[.int .i64 0,.int .i64 0,.slice none 0 0,.slice none 0 0]
theorem made_C4 (n:Nat):(madeCells #[.int .i64 0,.int .i64 0,.slice none 0 0,.slice none 0 0] (n*4)).toList=(List.replicate n zer4).flatten:=by
 have hk:∀ds∈List.replicate n zer4,ds.length=4:=fun ds hd=>by rw[List.eq_of_mem_replicate hd];rfl
 apply List.ext_getElem?
 intro i
 by_cases hi:i<n*4
 · have hj:i / 4<n:=by omega
   have hr:(List.replicate n zer4)[i / 4]? =some zer4:=by simp[hj]
   have h0:=qCf hk hr (i % 4) (by omega);rw[show i / 4*4+i % 4=i by omega] at h0;rw[h0];have hm:i % 4=0∨i % 4=1∨i % 4=2∨i % 4=3:=by omega
   rcases hm with e|e|e|e<;>simp[madeCells,hi,e,zer4]
 · rw[List.getElem?_eq_none (by simp[madeCells];omega),List.getElem?_eq_none (by rw[qI5 hk];simp;omega)]
theorem qH9 (n:Nat) (hn:n≤1000000) (w:World):(Instr.makeSlice 30 (.int .i64 (n:Nat)) (.int .i64 (n:Nat))).run Tryz.prog w= .ok (.slice (some ⟨w.heap.size,0,none⟩) n n) (w.alloc (.cells (madeCells #[.int .i64 0,.int .i64 0,.slice none 0 0,.slice none 0 0] (n*4)) 78)):=by
 obtain⟨i,hi,hz,hs,hb⟩:=info_parts qKy;have:=run_make (P:=Tryz.prog) w 30 78 i _ Tryz.underlying30 hi hz .i64 .i64 (n:Int) (n:Int) (by omega) (Int.le_refl _) (by rw[hb];omega) (by omega);rw[hs,Int.toNat_natCast] at this;exact this
theorem Row.made (w:World) (n:Nat) (hn:n≤1000000):Row (fun b=>b=w.heap.size) (fun _=>1) (w.alloc (.cells (madeCells #[.int .i64 0,.int .i64 0,.slice none 0 0,.slice none 0 0] (n*4)) 78)) (.slice (some ⟨w.heap.size,0,none⟩) n n) (List.replicate n zer4) (List.replicate n ob0):=by
 refine⟨by simp,?_,fun b e=> ?_,fun j o cs h1 h2=> ?_⟩
 · rw[←made_C4,List.length_replicate]
   exact World.ownsRow_lit (base:=0) w _ n (qBU _) zM (by rw[size_madeCells])
 · simp[Value.ownBlock] at e
   exact⟨e.symm,rfl⟩
 · rw[List.eq_of_mem_replicate (qBQ h1),List.eq_of_mem_replicate (qBQ h2)]
   exact ob0_one _ _ _
theorem Row.frozen0 {v:Value} (h:Row S tag w v css O) (hv:v= .slice (some ⟨g,0,none⟩) n c) (hn:0<O.length) (i:Nat):w.frozen? ⟨g,i,none⟩=false:=by
 obtain⟨g',c',e,-⟩:=qCQ h.2.1 hn;subst hv;simp only[Value.slice.injEq,Option.some.injEq,Addr.mk.injEq,and_true] at e;obtain⟨rfl,rfl,rfl⟩:=e;exact h.2.1.frozenAt i
theorem Row.four (h:Row S tag w (.slice (some ⟨g,0,none⟩) n c) css O) (hj:j<O.length):
 ∃x0 x1 x2 x3,w.cell? ⟨g,j*4,none⟩=some x0∧w.cell? ⟨g,j*4+1,none⟩=some x1∧w.cell? ⟨g,j*4+2,none⟩=some x2∧w.cell? ⟨g,j*4+3,none⟩=some x3:=by
 obtain⟨g',cs,e,-,-,-,-,hc,-,ho⟩:=h.cells (List.getElem?_eq_getElem hj);simp only[Option.some.injEq,Addr.mk.injEq,and_true] at e;subst e;obtain⟨A,c,B,d,rfl,-⟩:=ho.parts;exact⟨_,_,_,_,hc 0 _ rfl,hc 1 _ rfl,hc 2 _ rfl,hc 3 _ rfl⟩
structure Trn (S:Nat→Prop) (w w':World):Prop where
 os:w'.os=w.os
 tape:w'.tape=w.tape
 output:w'.output=w.output
 size:w.heap.size≤w'.heap.size
 block:∀b,b<w.heap.size→¬S b→w'.heap[b]? =w.heap[b]?
theorem Trn.refl (S:Nat→Prop) (w:World):Trn S w w:=⟨rfl,rfl,rfl,qBL _,fun _ _ _=>rfl⟩
theorem Trn.trans {c:World} (h:Trn S a b) (k:Trn T b c) (hT:∀i,i<a.heap.size→T i→S i):Trn S a c:=
 ⟨k.os.trans h.os,k.tape.trans h.tape,k.output.trans h.output,qBZ h.size k.size,fun i hi hn=>(k.block i (qBN hi h.size) fun q=>hn (hT i hi q)).trans (h.block i hi hn)⟩
theorem Trn.of_below (h:Below a.heap.size a b):Trn S a b:=⟨h.os,h.tape,h.output,h.size,fun i hi _=>h.block i hi⟩
theorem Trn.below (h:Trn S a b) (hB:B≤a.heap.size) (hS:∀i,S i→B≤i):Below B a b:=
 ⟨h.os,h.tape,h.output,h.size,fun i hi=>h.block i (qBN hi hB) fun q=>by have:=hS i q;omega⟩
theorem Trn.set (h:Trn S a b) {i:Nat} (hg:S g) (u:Value):Trn S a (b.setCell ⟨g,i,none⟩ u):=
 ⟨h.os,h.tape,h.output,by simpa[World.setCell] using h.size,fun k hk hn=>(qBP _ _ _ _ (fun(e:k=g)=>hn (by rw[e];exact hg))).trans (h.block k hk hn)⟩
theorem Trn.then {c:World} (h:Trn S a b) (k:Below b.heap.size b c):Trn S a c:=h.trans (T:=S) (Trn.of_below k) fun _ _ q=>q
def IsHp (S:Nat→Prop) (w:World) (g:Nat) (O:List Ob) (q u:Int):Prop:=
 ∃v css tag,Blk w g 190 #[v,.int .i64 q,.int .i64 u]∧S g∧tag g=0∧Row S tag w v css O
theorem IsHp.keep {q u:Int} (h:IsHp S w g O q u) (hk:∀b,b<w.heap.size→S b→w'.heap[b]? =w.heap[b]?) (hS:∀b,S b→b<w.heap.size):IsHp S w' g O q u:=by
 obtain⟨v,css,tag,h1,h2,h3,h4⟩:=h;exact⟨v,css,tag,(hk g h1.lt h2).trans h1,h2,h3,h4.keep fun b hb _=>hk b (hS b hb) hb⟩
theorem IsHp.wide {q u:Int} (h:IsHp S w g O q u) (hk:∀b,S b→T b):IsHp T w g O q u:=by
 obtain⟨v,css,tag,h1,h2,h3,h4⟩:=h;exact⟨v,css,tag,h1,hk g h2,h3,h4.wide hk⟩
def Found (n r:Nat) (css:List (List Value)) (e:Ending):Prop:=
 ((r=0∨n<r)∧e= .returned (.tuple #[.agg #[.int .i64 0,.int .i64 0,.slice none 0 0,.slice none 0 0],.bool false]))∨
 ((0<r∧r≤n)∧∃k m A p c B q d,css[r-1]? =some [.int .i64 k,.int .i64 m,.slice A p c,.slice B q d]∧e= .returned (.tuple #[.agg #[.int .i64 k,.int .i64 m,.slice A p c,.slice B q d],.bool true]))
def IsTb (S:Nat→Prop) (w:World) (g:Nat) (H:List Hnd):Prop:=
 ∃v,Blk w g 192 #[v]∧S g∧v.ownBlock≠some g∧(∀b,v.ownBlock=some b→S b)∧w.ownsRow 0 102 3 v H.length (Hcs H)∧HOk H
theorem IsTb.keep (h:IsTb S w g H) (hk:∀b,b<w.heap.size→S b→w'.heap[b]? =w.heap[b]?):IsTb S w' g H:=by
 obtain⟨v,h1,h2,h3,h4,h5,h6⟩:=h;exact⟨v,(hk g h1.lt h2).trans h1,h2,h3,h4,qBs h5 fun b hb=>hk b (h5.lt b hb).2 (h4 b hb),h6⟩
theorem IsTb.wide (h:IsTb S w g H) (hk:∀b,b<w.heap.size→S b→T b):IsTb T w g H:=by
 obtain⟨v,h1,h2,h3,h4,h5,h6⟩:=h;exact⟨v,h1,hk g h1.lt h2,h3,fun b hb=>hk b (h5.lt b hb).2 (h4 b hb),h5,h6⟩
theorem IsTb.ok (h:IsTb S w g H):HOk H:=by
 obtain⟨v,h1,h2,h3,h4,h5,h6⟩:=h;exact h6
end Go.Proofs.YtgdbhanhmenmfaaGreat
