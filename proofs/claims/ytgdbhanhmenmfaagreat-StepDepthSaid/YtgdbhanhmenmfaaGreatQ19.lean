/-
Rc Rf
-/
import Derived.Test.YtgdbhanhmenmfaaGreatQ01
import Derived.Test.YtgdbhanhmenmfaaGreatQ18
set_option linter.unusedSimpArgs false
set_option linter.unusedVariables false
set_option maxRecDepth 100000
set_option maxHeartbeats 4000000
namespace Go.Proofs.YtgdbhanhmenmfaaGreat
open Go.RowKit
variable {B:Nat}{α:Type}{L:Lay α}{W:World}{e:Ending}{f:α→List Nat}{β:Type}{f':β→List Nat}{g:Nat}{gd:α→Prop}{hi lo:Nat}{r:Int}{s t:Option (List Nat)}{ty:Nat}{w w' w1:World}{x:α}
def gL {α:Type} (lo hi:Nat) (gd:α→Prop) (xs:List α):Prop:=lo≤xs.length∧xs.length≤hi∧∀x∈xs,gd x
theorem PF.gL (h:PF f gd) (lo hi:Nat) (hhi:hi≤1000):PF (lB f) (gL lo hi gd):=fun x y r s hx hy e=>
 h.list x y r s ⟨by have:=hx.2.1;unfold B64;omega,hx.2.2⟩ ⟨by have:=hy.2.1;unfold B64;omega,hy.2.2⟩ e
def Got {α:Type} (f:α→List Nat) (gd:α→Prop) (s t:Option (List Nat)) (x:α):Prop:=
 (gd x∧∃zs rest,s=some zs∧zs=f x++rest∧t=some rest)∨(t=none∧∀zs,s=some zs→¬Has f gd zs)
theorem Got.two {gd':α→β→Prop} (hPF:PF f gd) {u:Option (List Nat)} {y:β} (h:Got f gd s t x) (h':Got f' (gd' x) t u y):
 Got (fun p:α×β=>f p.1++f' p.2) (fun p=>gd p.1∧gd' p.1 p.2) s u (x,y):=by
 rcases h with⟨hg,zs,rest,rfl,rfl,rfl⟩|⟨rfl,hno⟩
 · rcases h' with⟨hg',zs',rest',e,rfl,rfl⟩|⟨rfl,hno'⟩
   · injection e with e
     subst e;exact .inl ⟨⟨hg,hg'⟩,_,rest',rfl,by simp,rfl⟩
   · refine .inr ⟨rfl,fun zs e hh=> ?_⟩
     injection e with e;subst e;obtain⟨⟨a,b⟩,r,⟨ha,hb⟩,e⟩:=hh;rw[List.append_assoc] at e;obtain⟨rfl,e2⟩:=hPF x a _ _ hg ha e;exact hno' _ rfl ⟨b,r,hb,e2⟩
 · rcases h' with⟨hg',zs',rest',e,_⟩|⟨rfl,hno'⟩
   · cases e
   · exact .inr ⟨rfl,fun zs e ⟨⟨a,b⟩,r,⟨ha,hb⟩,e2⟩=>hno zs e ⟨a,f' b++r,ha,by rw[e2,List.append_assoc]⟩⟩
theorem Got.map {gd':β→Prop} (h:Got f gd s t x) (m:α→β) (hf:∀x,f x=f' (m x)) (hg:∀x,gd x↔gd' (m x)) (hm:∀y,∃x,y=m x):Got f' gd' s t (m x):=by
 rcases h with⟨h1,zs,rest,h2,h3,h4⟩|⟨h1,h2⟩
 · exact .inl ⟨(hg x).1 h1,zs,rest,h2,by rw[h3,hf],h4⟩
 · refine .inr ⟨h1,fun zs e ⟨y,r,hy,e2⟩=> ?_⟩
   obtain⟨z,rfl⟩:=hm y;exact h2 zs e ⟨z,r,(hg z).2 hy,by rw[e2,hf]⟩
def ReadsX {α:Type} (L:Lay α) (V:List Value→Value) (f:α→List Nat) (gd:α→Prop) (g:Nat) (s:Option (List Nat)) (w:World) (x:α) (e:Ending) (w':World):Prop:=
 Only g w w'∧∃cs,e= .returned (V cs)∧L.R (fun b=>w.heap.size≤b∧b<w'.heap.size) w' cs x∧∃t,St w' g t∧Got f gd s t x
theorem ReadsX.reads {V:List Value→Value} (h:ReadsX L V f gd g s w x e w'):Reads L V f gd g s w e w':=by
 obtain⟨h1,cs,h2,h3,t,h4,h5⟩:=h;refine⟨h1,cs,x,h2,h3,?_⟩;rcases h5 with⟨a,zs,rest,b,c,rfl⟩|⟨rfl,a⟩
 · exact .inl ⟨a,zs,rest,b,c,h4⟩
 · exact .inr ⟨h4,a⟩
theorem Reads.xR {V:List Value→Value} (h:Reads L V f gd g s w e w'):∃x,ReadsX L V f gd g s w x e w':=by
 obtain⟨h1,cs,x,h2,h3,h5⟩:=h;refine⟨x,h1,cs,h2,h3,?_⟩;rcases h5 with⟨a,zs,rest,b,c,d⟩|⟨d,a⟩
 · exact⟨some rest,d,.inl ⟨a,zs,rest,b,c,rfl⟩⟩
 · exact⟨none,d,.inr ⟨rfl,a⟩⟩
theorem qBa {v:Nat} {ys:List Nat} (hhi:hi≤1000) (h1:lo≤v) (h2:v≤hi) (ho:Only g w w1) (h:ReadsN L ty f gd v g (some ys) w1 e w'):
 ∃x,x.length≤hi∧ReadsX (slL L) vOne (lB f) (gL lo hi gd) g (some (vb v++ys)) w x e w':=by
 obtain⟨ho',u,xs,rfl,hown,hl,hh⟩:=h;refine⟨xs,by omega,qBb ho ho',[u],rfl,(slL L).wide hown.slice fun b hb=>⟨qBZ ho.size hb.1,hb.2⟩,?_⟩;rcases hh with⟨hg,zs,rest,e1,e2,hs⟩|⟨hs,hno⟩
 · injection e1 with e1
   subst e1 e2;exact⟨some rest,hs,.inl ⟨⟨by omega,by omega,hg⟩,_,rest,rfl,by simp[lB,hl],rfl⟩⟩
 · refine⟨none,hs,.inr ⟨rfl,fun zs e1 ⟨y,r,hy,e2⟩=> ?_⟩⟩
   injection e1 with e1;subst e1;exact PF.list_no (f:=f) (g:=gd) qj rfl (hno ys rfl) ⟨y,r,⟨by have:=hy.2.1;unfold B64;omega,hy.2.2⟩,e2⟩
theorem qDI (ho:Only g w w1) (h:ReadsN L ty f gd 0 g none w1 e w')
 (hno:∀xs,s=some xs→¬∃v rest,lo≤v∧v≤hi∧xs=vb v++rest):∃x,x.length≤hi∧ReadsX (slL L) vOne (lB f) (gL lo hi gd) g s w x e w':=by
 obtain⟨ho',u,xs,rfl,hown,hl,hh⟩:=h;refine⟨xs,by omega,qBb ho ho',[u],rfl,(slL L).wide hown.slice fun b hb=>⟨qBZ ho.size hb.1,hb.2⟩,?_⟩;rcases hh with⟨hg,zs,rest,e1,_⟩|⟨hs,_⟩
 · cases e1
 · refine⟨none,hs,.inr ⟨rfl,fun zs e1 ⟨y,r,hy,e2⟩=>hno zs e1 ⟨y.length,(y.map f).flatten++r,hy.1,hy.2.1,?_⟩⟩⟩
   rw[e2,lB,List.append_assoc]
theorem qDY (rb g:Nat) (v0 v1 v2 v3 v4:Value) (r:Int) (hr8:r≤8) (most:Nat) (hm:most≤1000) (s:Option (List Nat)) (w:World) (h:Mrd w rb g v0 v1 v2 v3 v4 r) (hs:St w g s):
 Calls Tryz.prog 241 #[.pointer (some ⟨rb,0,none⟩),.int .i64 (most:Int)] w fun e w'=>∃x,x.length≤most∧ReadsX tysL vOne (lB tB) (gL 0 most (fun t=>goodT r t=true)) g s w x e w':=by
 have HM:=qBK h;have HL:Hid (∀(w1:World) (n:Nat) (s1:Option (List Nat)),Only g w w1→St w1 g s1→n≤1000→Calls Tryz.prog 265 #[.int .i64 (n:Int),.func (.func 242) #[.pointer (some ⟨rb,0,none⟩)] #[]] w1 (ReadsN typL 61 tB (fun t=>goodT r t=true) n g s1 w1)):=fun w1 n s1 ho h1 hn=>
  qJx rb g n _ (qCr hr8) s1 w1 h1 (by omega) fun w2 s2 ho2 h2=>qDt rb g v0 v1 v2 v3 v4 r hr8 s2 w2 ((HM.out.only ho).only ho2) h2
 by_cases hyes:∃v ys,v≤most∧s=some (vb v++ys)
 · obtain⟨v,ys,hv,rfl⟩:=hyes
   have HC:=qBK (qGx rb g v0 v1 v2 v3 v4 r 0 most v ys w h hs (by omega) hm (by omega) hv);clear h hs
   go_enter Tryz.func241,Tryz.ntmps241
   go_wp2_with (first
    |(go_at_call 187
      refine HC.out.mono ?_;rintro e w1 ⟨rfl,hs1,ho1⟩;have HS1:=qBK hs1;have HO1:=qBK ho1;clear hs1 ho1)
    |(go_at_call 265
      refine(HL.out w1 v _ HO1.out HS1.out (by omega)).mono ?_;rintro e w2 hr2;obtain⟨x,hx,hr3⟩:=qBa hm (qBU v) hv HO1.out hr2;have HX:=qBK hr3;obtain⟨-,cs,he,hcs,-⟩:=hr3;obtain⟨A2,c2,rfl,-⟩:=hcs;obtain rfl:e= .returned (.slice A2 x.length c2):=he;clear hr2))
   go_ret;exact⟨x,hx,HX.out⟩
 · have HN0:Hid (∀xs,s=some xs→¬∃v rest,0≤v∧v≤most∧xs=vb v++rest):=by
    rintro xs rfl ⟨v,rest,_,h2,rfl⟩;exact hyes ⟨v,rest,h2,rfl⟩
   have HC:=qBK (qGz rb g v0 v1 v2 v3 v4 r 0 most s w h hs (by omega) hm HN0.out);clear h hs hyes
   go_enter Tryz.func241,Tryz.ntmps241
   go_wp2_with (first
    |(go_at_call 187
      refine HC.out.mono ?_;rintro e w1 ⟨rfl,hs1,ho1⟩;have HS1:Hid (St w1 g none):=hs1;have HO1:=qBK ho1;clear hs1 ho1)
    |(go_at_call 265
      refine(HL.out w1 0 _ HO1.out HS1.out (by omega)).mono ?_;rintro e w2 hr2;obtain⟨x,hx,hr3⟩:=qDI HO1.out hr2 HN0.out;have HX:=qBK hr3;obtain⟨-,cs,he,hcs,-⟩:=hr3;obtain⟨A2,c2,rfl,-⟩:=hcs;obtain rfl:e= .returned (.slice A2 x.length c2):=he;clear hr2))
   go_ret;exact⟨x,hx,HX.out⟩
theorem recOk_iff {ts:List Typ}:recOk r ts=true↔gL 0 6 (fun t=>goodT r t=true) ts:=by
 simp only[recOk,qB0,gL]
 constructor
 · rintro⟨h1,h2⟩
   exact⟨by omega,by omega,h2⟩
 · rintro⟨h1,h2,h3⟩
   exact⟨by omega,h3⟩
theorem qIH (rb g:Nat) (v0 v1 v2 v3 v4:Value) (r:Int) (hr8:r≤8) (s:Option (List Nat)) (w:World) (h:Mrd w rb g v0 v1 v2 v3 v4 r) (hs:St w g s):
 Calls Tryz.prog 189 #[.pointer (some ⟨rb,0,none⟩)] w (Reads tysL vOne (lB tB) (fun ts=>recOk r ts=true) g s w):=by
 have HC:=qBK (qDY rb g v0 v1 v2 v3 v4 r hr8 6 (by omega) s w h hs);clear h hs
 go_enter Tryz.func189,Tryz.ntmps189
 go_wp2_with (first
  |(go_at_call 241
    refine HC.out.mono ?_;rintro e w1 ⟨x,-,hr⟩;have HR:=qBK hr;obtain⟨-,cs,he,hcs,-⟩:=hr;obtain⟨A2,c2,rfl,-⟩:=hcs;obtain rfl:e= .returned (.slice A2 x.length c2):=he))
 go_ret;obtain⟨h1,cs,h2,h3,t,h4,h5⟩:=HR.out;exact ReadsX.reads (x:=x) ⟨h1,cs,h2,h3,t,h4,h5.map id (fun _=>rfl) (fun _=>recOk_iff.symm) (fun y=>⟨y,rfl⟩)⟩
def Abv (B:Nat) (w w':World):Prop:=w.heap.size≤w'.heap.size∧∀b,B≤b→b<w.heap.size→w'.heap[b]? =w.heap[b]?
theorem Abv.refl (B:Nat) (w:World):Abv B w w:=⟨qBL _,fun _ _ _=>rfl⟩
theorem Abv.only {a b c:World} (h:Abv B a b) (ho:Only g b c) (hg:g<B):Abv B a c:=
 ⟨qBZ h.1 ho.size,fun k h1 h2=>(ho.block k (qBN h2 h.1) (fun e=>by injection e;omega)).trans (h.2 k h1 h2)⟩
theorem Abv.set {i:Nat} {a b:World} (h:Abv B a b) (k:Nat) (u:Value) (hk:k<B):Abv B a (b.setCell ⟨k,i,none⟩ u):=
 ⟨by simpa using h.1,fun j h1 h2=>(qBP _ _ _ _ qK).trans (h.2 j h1 h2)⟩
theorem Lay.up (L:Lay α) {C:Nat} {cs:List Value} (h:L.R (fun b=>C≤b∧b<w.heap.size) w cs x) (ha:Abv B w w') (hC:B≤C):L.R (fun b=>B≤b∧b<w'.heap.size) w' cs x:=
 L.wide (L.keep h fun b hb=>ha.2 b (qBZ hC hb.1) hb.2) fun b hb=>⟨qBZ hC hb.1,qBN hb.2 ha.1⟩
def Var (w:World) (g:Nat) (ty:Nat) (zs cs:Array Value) (W:World):Prop:=Blk W w.heap.size ty zs∧Blk W (w.heap.size+1) ty cs∧Only g w W∧g<w.heap.size
theorem Var.new (zs:Array Value) (hg:g<w.heap.size):Var w g ty zs zs ((w.alloc (.cells zs ty)).alloc (.cells zs ty)):=by
 refine⟨(qBX _ _ _ (by simp)).trans (heap_alloc_new w _),?_,qBb (qBh _) (qBh _),hg⟩;have:=heap_alloc_new (w.alloc (.cells zs ty)) (.cells zs ty);simpa[Blk] using this
theorem Var.only {W':World} {zs cs:Array Value} (h:Var w g ty zs cs W) (ho:Only g W W'):Var w g ty zs cs W':=
 ⟨qBp ho h.1 (by have:=h.2.2.2;omega),qBp ho h.2.1 (by have:=h.2.2.2;omega),qBb h.2.2.1 ho,h.2.2.2⟩
theorem Var.set {zs cs:Array Value} (h:Var w g ty zs cs W) (i:Nat) (u:Value):Var w g ty zs (cs.setIfInBounds i u) (W.setCell ⟨w.heap.size+1,i,none⟩ u):=
 ⟨qB7 h.1 _ (by omega),h.2.1.set i u,qBg h.2.2.1 ((qBO _ _).setCell (p:=⟨w.heap.size+1,i,none⟩) (by show w.heap.size≤w.heap.size+1;omega) _),h.2.2.2⟩
theorem St.set {b i:Nat} (h:St W g s) (u:Value) (hg:g<b):St (W.setCell ⟨b,i,none⟩ u) g s:=h.low ((qBO b W).setCell (p:=⟨b,i,none⟩) (qBL _) _) hg
theorem qL0 {x:Imp}:impOk r x=true↔gL 0 4 (fun t=>goodT r t=true) x.args∧goodT r x.ret=true:=by
 simp only[impOk,Bool.and_eq_true,qB0,gL]
 constructor
 · rintro⟨⟨h1,h2⟩,h3⟩
   exact⟨⟨by omega,by omega,h2⟩,h3⟩
 · rintro⟨⟨h1,h2,h3⟩,h4⟩
   exact⟨⟨by omega,h3⟩,h4⟩
theorem qON {x:Fn}:fnOk r x=true↔gL 0 4 (fun t=>goodT r t=true) x.args∧goodT r x.ret=true∧gL 0 (8-x.args.length) (fun t=>goodT r t=true) x.locs∧gL 1 64 (fun t=>goodIn t=true) x.code:=by
 simp only[fnOk,Bool.and_eq_true,qB0,gL]
 constructor
 · rintro⟨⟨⟨⟨h1,h2⟩,h3⟩,h4,h5⟩,h6,h7⟩
   exact⟨⟨by omega,by omega,h2⟩,h3,⟨by omega,by omega,h5⟩,by omega,by omega,h7⟩
 · rintro⟨⟨h1,h2,h3⟩,h4,⟨h5,h6,h7⟩,h8,h9,h10⟩
   exact⟨⟨⟨⟨by omega,h3⟩,h4⟩,by omega,h7⟩,by omega,h10⟩
theorem qEI (rb g:Nat) (v0 v1 v2 v3 v4:Value) (r:Int) (hr8:r≤8) (s:Option (List Nat)) (w:World) (h:Mrd w rb g v0 v1 v2 v3 v4 r) (hs:St w g s):
 Calls Tryz.prog 193 #[.pointer (some ⟨rb,0,none⟩)] w (Reads impL vAgg impB (fun x=>impOk r x=true) g s w):=by
 have HM:=qBK h;have HS:=qBK hs;have hg:=hs.lt;have hrb:=h.2.lt;have hrw:rb≠w.heap.size:=by omega
 clear h hs
 go_enter Tryz.func193,Tryz.ntmps193
 go_wp2_with fail
 refine qBy fun W0 hW0=> ?_;have HV0:Hid (Var w g 75 #[.slice none 0 0,.int .i64 0,.int .i64 0] #[.slice none 0 0,.int .i64 0,.int .i64 0] W0):=by show Var _ _ _ _ _ _;rw[hW0];exact Var.new #[.slice none 0 0,.int .i64 0,.int .i64 0] hg
 refine qAv ?_;intro HS0 hz0;clear hW0;have HC0:=qBK (qDY rb g v0 v1 v2 v3 v4 r hr8 (4) (by omega) _ W0 (HM.out.only HV0.out.2.2.1) HS0.out);refine HC0.out.mono ?_;rintro e w0 ⟨x0,hx0,hr0⟩;have HR0:=qBK hr0;obtain⟨ho,cs,he,hcs,t0,hst,hgot⟩:=hr0;obtain⟨A0,c0,rfl,ll,lm,lsq⟩:=hcs;obtain rfl:e= .returned (.slice A0 x0.length c0):=he;have HQ0:Hid (tysL.R (fun b=>W0.heap.size≤b∧b<w0.heap.size) w0 [.slice A0 x0.length c0] x0):=⟨A0,c0,rfl,ll,lm,lsq⟩;clear ll lm lsq;have HV0x:=qBK (HV0.out.only ho);have HG0:=qBK hgot;have HS0x:=qBK hst;have HO0:=qBK ho;have hz0x:W0.heap.size≤w0.heap.size:=ho.size;clear ho hst hgot;refine qA0 ?_;intro q0hr q0hv q0r0 q0f0 q0x0 q0y0 q0r1 q0f1 q0x1 q0y1 q0r2 q0f2 q0x2 q0y2;simp at q0r0 q0x0 q0r1 q0x1 q0r2 q0x2;clear q0hr q0hv
 go_wp2_with fail
 refine qBy fun W1 hW=> ?_;have HV1:Hid (Var w g 75 #[.slice none 0 0,.int .i64 0,.int .i64 0] #[.slice A0 x0.length c0,.int .i64 0,.int .i64 0] W1):=by show Var _ _ _ _ _ _;rw[hW];simpa using(HV0x.out.set 0 _)
 refine qAS ?_;intro HS1 HA1 hz1;clear hW;clear q0r0 q0f0 q0x0 q0y0 q0r1 q0f1 q0x1 q0y1 q0r2 q0f2 q0x2 q0y2;refine(qDt rb g v0 v1 v2 v3 v4 r hr8 _ W1 (HM.out.only HV1.out.2.2.1) HS1.out).mono ?_;rintro e w1 hrr;obtain⟨x1,ho,cs,he,hcs,t1,hst,hgot⟩:=hrr.xR;obtain⟨rfl,hi1,hi2⟩:=hcs;obtain rfl:e= .returned (.agg #[.int .i64 x1.1,.int .i64 x1.2]):=he;have HI1:=qBK hi1;have HI2:=qBK hi2;clear hrr hi1 hi2;have HV1x:=qBK (HV1.out.only ho);have HG1:=qBK hgot;have HS1x:=qBK hst;have HO1:=qBK ho;have hz1x:W1.heap.size≤w1.heap.size:=ho.size;clear ho hst hgot;refine qA1 ?_;intro q1hr q1hv q1r0 q1f0 q1x0 q1y0 q1r1 q1f1 q1x1 q1y1 q1r2 q1f2 q1x2 q1y2;simp at q1r0 q1x0 q1r1 q1x1 q1r2 q1x2;clear q1hr q1hv
 go_wp2_with fail
 have hF:Below w.heap.size w1 (((((w1.setCell ⟨w.heap.size+1,1,none⟩ (.int .i64 x1.1)).setCell ⟨w.heap.size+1,2,none⟩ (.int .i64 x1.2)).setCell ⟨w.heap.size,0,none⟩ (.slice A0 x0.length c0)).setCell ⟨w.heap.size,1,none⟩ (.int .i64 x1.1)).setCell ⟨w.heap.size,2,none⟩ (.int .i64 x1.2)):=((((((qBO _ _).setCell (p:=⟨w.heap.size+1,1,none⟩) (Nat.le_succ _) _).setCell (p:=⟨w.heap.size+1,2,none⟩) (Nat.le_succ _) _).setCell (p:=⟨w.heap.size,0,none⟩) (qBL _) _).setCell (p:=⟨w.heap.size,1,none⟩) (qBL _) _).setCell (p:=⟨w.heap.size,2,none⟩) (qBL _) _);have hA:Abv (w.heap.size+2) w1 (((((w1.setCell ⟨w.heap.size+1,1,none⟩ (.int .i64 x1.1)).setCell ⟨w.heap.size+1,2,none⟩ (.int .i64 x1.2)).setCell ⟨w.heap.size,0,none⟩ (.slice A0 x0.length c0)).setCell ⟨w.heap.size,1,none⟩ (.int .i64 x1.1)).setCell ⟨w.heap.size,2,none⟩ (.int .i64 x1.2)):=((((((Abv.refl (w.heap.size+2) w1).set (w.heap.size+1) _ (by omega)).set (w.heap.size+1) _ (by omega)).set w.heap.size _ (by omega)).set w.heap.size _ (by omega)).set w.heap.size _ (by omega));have ha1:=hA;have ha0:Abv (w.heap.size+2) w0 (((((w1.setCell ⟨w.heap.size+1,1,none⟩ (.int .i64 x1.1)).setCell ⟨w.heap.size+1,2,none⟩ (.int .i64 x1.2)).setCell ⟨w.heap.size,0,none⟩ (.slice A0 x0.length c0)).setCell ⟨w.heap.size,1,none⟩ (.int .i64 x1.1)).setCell ⟨w.heap.size,2,none⟩ (.int .i64 x1.2)):=by
  have h1:=HA1.out.only HO1.out (by omega);exact⟨qBZ h1.1 ha1.1,fun b h2 h3=>(ha1.2 b h2 (qBN h3 h1.1)).trans (h1.2 b h2 h3)⟩
 refine bodyPost_ret (v:= .agg #[.slice A0 x0.length c0,.int .i64 x1.1,.int .i64 x1.2]) (by simp[results,Tryz.results193,go_sem,q1r0,q1r1,q1r2]) rfl ?_;refine ReadsX.reads (x:=⟨x0,x1⟩) ⟨qBg HV1x.out.2.2.1 hF,_,rfl,?_,t1,HS1x.out.low hF hg,?_⟩
 · refine⟨_,rfl,HI1.out,HI2.out,?_⟩
   exact tysL.wide (tysL.up HQ0.out ha0 (by omega)) fun b hb=>⟨by omega,hb.2⟩
 · exact(Got.two ((qCr hr8).gL 0 4 (by omega)) (gd':=fun _ t=>goodT r t=true) HG0.out HG1.out).map (fun p:List Typ×Typ=>(⟨p.1,p.2⟩:Imp)) (fun _=>rfl) (fun p=>(qL0 (x:=⟨p.1,p.2⟩)).symm) (fun y=>⟨(y.args,y.ret),rfl⟩)
theorem PF.pair {gd':α→β→Prop} (h:PF f gd) (h':∀x,gd x→PF f' (gd' x)):PF (fun p:α×β=>f p.1++f' p.2) (fun p=>gd p.1∧gd' p.1 p.2):=by
 rintro⟨x,y⟩ ⟨x',y'⟩ r s ⟨h1,h2⟩ ⟨h3,h4⟩ e;simp only[List.append_assoc] at e;obtain⟨rfl,e2⟩:=h x x' _ _ h1 h3 e;obtain⟨rfl,rfl⟩:=h' x h1 y y' _ _ h2 h4 e2;exact⟨rfl,rfl⟩
def Ahead (lo hi g:Nat) (s:Option (List Nat)) (w:World) (n:Nat) (w1:World):Prop:=
 Only g w w1∧((lo≤n∧n≤hi∧∃ys,s=some (vb n++ys)∧St w1 g (some ys))∨(n=0∧St w1 g none∧∀xs,s=some xs→¬∃v rest,lo≤v∧v≤hi∧xs=vb v++rest))
theorem qDV (h:Counts lo hi g s w e w'):∃n:Nat,e= .returned (.int .i64 (n:Int))∧Ahead lo hi g s w n w':=by
 obtain⟨ho,v,h1,h2,h3⟩:=h;refine⟨v,h1,ho,?_⟩;rcases h3 with⟨h4,xs,rest,rfl,rfl,h5⟩|⟨rfl,h4,h5⟩
 · exact .inl ⟨h4,h2,rest,rfl,h5⟩
 · exact .inr ⟨rfl,h4,h5⟩
theorem Ahead.state {n:Nat} (ha:Ahead lo hi g s w n w1) (hhi:hi≤1000):n≤1000∧∃s1,St w1 g s1:=by
 obtain⟨ho,⟨h1,h2,ys,rfl,h3⟩|⟨rfl,h3,h4⟩⟩:=ha
 · exact⟨by omega,_,h3⟩
 · exact⟨by omega,_,h3⟩
theorem St.same (h:St w g s) (h':St w g t):(s=none∧t=none)∨∃xs ys,s=some xs∧t=some ys:=by
 cases s with
 |none=>
  cases t with
  |none=>exact .inl ⟨rfl,rfl⟩
  |some ys=>
   obtain⟨A,c,hb,_⟩:=h'.1;have h1:Blk w g _ _:=h;have:=h1.symm.trans hb;simp at this
 |some xs=>
  cases t with
  |none=>
   obtain⟨A,c,hb,_⟩:=h.1;have h1:Blk w g _ _:=h';have:=h1.symm.trans hb;simp at this
  |some ys=>exact .inr ⟨xs,ys,rfl,rfl⟩
theorem qMI (rb g:Nat) (v0 v1 v2 v3 v4:Value) (r:Int) (s:Option (List Nat)) (w:World) (h:Mrd w rb g v0 v1 v2 v3 v4 r) (hs:St w g s):
 (Calls Tryz.prog 187 #[.pointer (some ⟨rb,0,none⟩),.int .i64 1,.int .i64 64] w fun e w'=>∃n:Nat,e= .returned (.int .i64 (n:Int))∧Ahead 1 64 g s w n w')∧
 ∀(w1:World) (n:Nat),Ahead 1 64 g s w n w1→Calls Tryz.prog 243 #[.int .i64 (n:Int),.func (.func 244) #[.pointer (some ⟨rb,0,none⟩)] #[]] w1 fun e w'=>∃x,x.length≤64∧ReadsX codL vOne (lB iB) (gL 1 64 (fun t=>goodIn t=true)) g s w x e w':=by
 refine⟨(qC1 rb g v0 v1 v2 v3 v4 r 1 64 s w h hs (by omega) (by omega)).mono fun e w' hc=>qDV hc,fun w1 n ha=> ?_⟩;obtain⟨ho,hcase⟩:=ha;rcases hcase with⟨h1,h2,ys,rfl,h3⟩|⟨rfl,h3,h4⟩
 · exact(qFs rb g n _ qNI _ w1 h3 (by omega) fun w2 s2 ho2 hs2=>qDl rb g v0 v1 v2 v3 v4 r s2 w2 ((h.only ho).only ho2) hs2).mono fun e w' hr=>qBa (by omega) h1 h2 ho hr
 · exact(qFs rb g 0 _ qNI _ w1 h3 (by omega) fun w2 s2 ho2 hs2=>qDl rb g v0 v1 v2 v3 v4 r s2 w2 ((h.only ho).only ho2) hs2).mono fun e w' hr=>qDI ho hr h4
theorem qEJ (rb g:Nat) (v0 v1 v2 v3 v4:Value) (r:Int) (hr8:r≤8) (s:Option (List Nat)) (w:World) (h:Mrd w rb g v0 v1 v2 v3 v4 r) (hs:St w g s):
 Calls Tryz.prog 191 #[.pointer (some ⟨rb,0,none⟩)] w (Reads fnL vAgg fnB (fun x=>fnOk r x=true) g s w):=by
 have HM:=qBK h;have HS:=qBK hs;have hg:=hs.lt;have hrb:=h.2.lt;have hrw:rb≠w.heap.size:=by omega
 clear h hs
 go_enter Tryz.func191,Tryz.ntmps191
 go_wp2_with fail
 refine qBy fun W0 hW0=> ?_;have HV0:Hid (Var w g 70 #[.slice none 0 0,.int .i64 0,.int .i64 0,.slice none 0 0,.slice none 0 0] #[.slice none 0 0,.int .i64 0,.int .i64 0,.slice none 0 0,.slice none 0 0] W0):=by show Var _ _ _ _ _ _;rw[hW0];exact Var.new #[.slice none 0 0,.int .i64 0,.int .i64 0,.slice none 0 0,.slice none 0 0] hg
 refine qAv ?_;intro HS0 hz0;clear hW0;have HC0:=qBK (qDY rb g v0 v1 v2 v3 v4 r hr8 (4) (by omega) _ W0 (HM.out.only HV0.out.2.2.1) HS0.out);refine HC0.out.mono ?_;rintro e w0 ⟨x0,hx0,hr0⟩;have HR0:=qBK hr0;obtain⟨ho,cs,he,hcs,t0,hst,hgot⟩:=hr0;obtain⟨A0,c0,rfl,ll,lm,lsq⟩:=hcs;obtain rfl:e= .returned (.slice A0 x0.length c0):=he;have HQ0:Hid (tysL.R (fun b=>W0.heap.size≤b∧b<w0.heap.size) w0 [.slice A0 x0.length c0] x0):=⟨A0,c0,rfl,ll,lm,lsq⟩;clear ll lm lsq;have HV0x:=qBK (HV0.out.only ho);have HG0:=qBK hgot;have HS0x:=qBK hst;have HO0:=qBK ho;have hz0x:W0.heap.size≤w0.heap.size:=ho.size;clear ho hst hgot;refine qA0 ?_;intro q0hr q0hv q0r0 q0f0 q0x0 q0y0 q0r1 q0f1 q0x1 q0y1 q0r2 q0f2 q0x2 q0y2;have q0r3:=q0hr.cell 3;have q0f3:=q0hr.frozen 3;have q0x3:=q0hv.cell 3;have q0y3:=q0hv.frozen 3;have q0r4:=q0hr.cell 4;have q0f4:=q0hr.frozen 4;have q0x4:=q0hv.cell 4;have q0y4:=q0hv.frozen 4;simp at q0r0 q0x0 q0r1 q0x1 q0r2 q0x2 q0r3 q0x3 q0r4 q0x4;clear q0hr q0hv
 go_wp2_with fail
 refine qBy fun W1 hW=> ?_;have HV1:Hid (Var w g 70 #[.slice none 0 0,.int .i64 0,.int .i64 0,.slice none 0 0,.slice none 0 0] #[.slice A0 x0.length c0,.int .i64 0,.int .i64 0,.slice none 0 0,.slice none 0 0] W1):=by show Var _ _ _ _ _ _;rw[hW];simpa using(HV0x.out.set 0 _)
 refine qAS ?_;intro HS1 HA1 hz1;clear hW;clear q0r0 q0f0 q0x0 q0y0 q0r1 q0f1 q0x1 q0y1 q0r2 q0f2 q0x2 q0y2 q0r3 q0f3 q0x3 q0y3 q0r4 q0f4 q0x4 q0y4;refine(qDt rb g v0 v1 v2 v3 v4 r hr8 _ W1 (HM.out.only HV1.out.2.2.1) HS1.out).mono ?_;rintro e w1 hrr;obtain⟨x1,ho,cs,he,hcs,t1,hst,hgot⟩:=hrr.xR;obtain⟨rfl,hi1,hi2⟩:=hcs;obtain rfl:e= .returned (.agg #[.int .i64 x1.1,.int .i64 x1.2]):=he;have HI1:=qBK hi1;have HI2:=qBK hi2;clear hrr hi1 hi2;have HV1x:=qBK (HV1.out.only ho);have HG1:=qBK hgot;have HS1x:=qBK hst;have HO1:=qBK ho;have hz1x:W1.heap.size≤w1.heap.size:=ho.size;clear ho hst hgot;refine qA1 ?_;intro q1hr q1hv q1r0 q1f0 q1x0 q1y0 q1r1 q1f1 q1x1 q1y1 q1r2 q1f2 q1x2 q1y2;have q1r3:=q1hr.cell 3;have q1f3:=q1hr.frozen 3;have q1x3:=q1hv.cell 3;have q1y3:=q1hv.frozen 3;have q1r4:=q1hr.cell 4;have q1f4:=q1hr.frozen 4;have q1x4:=q1hv.cell 4;have q1y4:=q1hv.frozen 4;simp at q1r0 q1x0 q1r1 q1x1 q1r2 q1x2 q1r3 q1x3 q1r4 q1x4;clear q1hr q1hv
 go_wp2_with fail
 refine qBy fun W2 hW=> ?_;have HV2:Hid (Var w g 70 #[.slice none 0 0,.int .i64 0,.int .i64 0,.slice none 0 0,.slice none 0 0] #[.slice A0 x0.length c0,.int .i64 x1.1,.int .i64 x1.2,.slice none 0 0,.slice none 0 0] W2):=by show Var _ _ _ _ _ _;rw[hW];simpa using((HV1x.out.set 1 _).set 2 _)
 have HS2:Hid (St W2 g t1):=by show St _ _ _;rw[hW];exact((HS1x.out.set _ (by omega)).set _ (by omega))
 have HA2:Hid (Abv (w.heap.size+2) w1 W2):=by show Abv _ _ _;rw[hW];exact(((Abv.refl (w.heap.size+2) w1).set (w.heap.size+1) _ (by omega)).set (w.heap.size+1) _ (by omega))
 have hz2:w.heap.size+2≤W2.heap.size:=by rw[hW];simp;omega
 clear hW;clear q1r0 q1f0 q1x0 q1y0 q1r1 q1f1 q1x1 q1y1 q1r2 q1f2 q1x2 q1y2 q1r3 q1f3 q1x3 q1y3 q1r4 q1f4 q1x4 q1y4;have hm2:(((8-x0.length:Nat):Int))=8-(x0.length:Int):=by omega
 have HC2:=qBK (qDY rb g v0 v1 v2 v3 v4 r hr8 (8-x0.length) (by omega) _ W2 (HM.out.only HV2.out.2.2.1) HS2.out);rw[hm2] at HC2;clear hm2;refine HC2.out.mono ?_;rintro e w2 ⟨x2,hx2,hr2⟩;have HR2:=qBK hr2;obtain⟨ho,cs,he,hcs,t2,hst,hgot⟩:=hr2;obtain⟨A2,c2,rfl,ll,lm,lsq⟩:=hcs;obtain rfl:e= .returned (.slice A2 x2.length c2):=he;have HQ2:Hid (tysL.R (fun b=>W2.heap.size≤b∧b<w2.heap.size) w2 [.slice A2 x2.length c2] x2):=⟨A2,c2,rfl,ll,lm,lsq⟩;clear ll lm lsq;have HV2x:=qBK (HV2.out.only ho);have HG2:=qBK hgot;have HS2x:=qBK hst;have HO2:=qBK ho;have hz2x:W2.heap.size≤w2.heap.size:=ho.size;clear ho hst hgot;have q2hr:=HV2x.out.1;have q2hv:=HV2x.out.2.1;have q2r0:=q2hr.cell 0;have q2f0:=q2hr.frozen 0;have q2x0:=q2hv.cell 0;have q2y0:=q2hv.frozen 0;have q2r1:=q2hr.cell 1;have q2f1:=q2hr.frozen 1;have q2x1:=q2hv.cell 1;have q2y1:=q2hv.frozen 1;have q2r2:=q2hr.cell 2;have q2f2:=q2hr.frozen 2;have q2x2:=q2hv.cell 2;have q2y2:=q2hv.frozen 2;have q2r3:=q2hr.cell 3;have q2f3:=q2hr.frozen 3;have q2x3:=q2hv.cell 3;have q2y3:=q2hv.frozen 3;have q2r4:=q2hr.cell 4;have q2f4:=q2hr.frozen 4;have q2x4:=q2hv.cell 4;have q2y4:=q2hv.frozen 4;simp at q2r0 q2x0 q2r1 q2x1 q2r2 q2x2 q2r3 q2x3 q2r4 q2x4;clear q2hr q2hv
 go_wp2_with fail
 refine qBy fun W3 hW=> ?_;have HV3:Hid (Var w g 70 #[.slice none 0 0,.int .i64 0,.int .i64 0,.slice none 0 0,.slice none 0 0] #[.slice A0 x0.length c0,.int .i64 x1.1,.int .i64 x1.2,.slice A2 x2.length c2,.slice none 0 0] W3):=by show Var _ _ _ _ _ _;rw[hW];simpa using(HV2x.out.set 3 _)
 have HS3:Hid (St W3 g t2):=by show St _ _ _;rw[hW];exact(HS2x.out.set _ (by omega))
 have HA3:Hid (Abv (w.heap.size+2) w2 W3):=by show Abv _ _ _;rw[hW];exact((Abv.refl (w.heap.size+2) w2).set (w.heap.size+1) _ (by omega))
 have hz3:w.heap.size+2≤W3.heap.size:=by rw[hW];simp;omega
 clear hW;clear q2r0 q2f0 q2x0 q2y0 q2r1 q2f1 q2x1 q2y1 q2r2 q2f2 q2x2 q2y2 q2r3 q2f3 q2x3 q2y3 q2r4 q2f4 q2x4 q2y4;have HCT:=qBK (qMI rb g v0 v1 v2 v3 v4 r _ W3 (HM.out.only HV3.out.2.2.1) HS3.out);refine HCT.out.1.mono ?_;rintro e wc ⟨nn,rfl,hcc⟩;have HCC:=qBK hcc;clear hcc
 go_wp2_with fail
 refine(HCT.out.2 wc nn HCC.out).mono ?_;rintro e w3 ⟨x3,hx3,hr3⟩;obtain⟨ho,cs,he,hcs,t3,hst,hgot⟩:=hr3;obtain⟨A3,c3,rfl,ll,lm,lsq⟩:=hcs;obtain rfl:e= .returned (.slice A3 x3.length c3):=he;have HQ3:Hid (codL.R (fun b=>W3.heap.size≤b∧b<w3.heap.size) w3 [.slice A3 x3.length c3] x3):=⟨A3,c3,rfl,ll,lm,lsq⟩;clear ll lm lsq;have HV3x:=qBK (HV3.out.only ho);have HG3:=qBK hgot;have HS3x:=qBK hst;have HO3:=qBK ho;have hz3x:W3.heap.size≤w3.heap.size:=ho.size;clear ho hst hgot;have q3hr:=HV3x.out.1;have q3hv:=HV3x.out.2.1;have q3r0:=q3hr.cell 0;have q3f0:=q3hr.frozen 0;have q3x0:=q3hv.cell 0;have q3y0:=q3hv.frozen 0;have q3r1:=q3hr.cell 1;have q3f1:=q3hr.frozen 1;have q3x1:=q3hv.cell 1;have q3y1:=q3hv.frozen 1;have q3r2:=q3hr.cell 2;have q3f2:=q3hr.frozen 2;have q3x2:=q3hv.cell 2;have q3y2:=q3hv.frozen 2;have q3r3:=q3hr.cell 3;have q3f3:=q3hr.frozen 3;have q3x3:=q3hv.cell 3;have q3y3:=q3hv.frozen 3;have q3r4:=q3hr.cell 4;have q3f4:=q3hr.frozen 4;have q3x4:=q3hv.cell 4;have q3y4:=q3hv.frozen 4;simp at q3r0 q3x0 q3r1 q3x1 q3r2 q3x2 q3r3 q3x3 q3r4 q3x4;clear q3hr q3hv
 go_wp2_with fail
 have hF:Below w.heap.size w3 ((((((w3.setCell ⟨w.heap.size+1,4,none⟩ (.slice A3 x3.length c3)).setCell ⟨w.heap.size,0,none⟩ (.slice A0 x0.length c0)).setCell ⟨w.heap.size,1,none⟩ (.int .i64 x1.1)).setCell ⟨w.heap.size,2,none⟩ (.int .i64 x1.2)).setCell ⟨w.heap.size,3,none⟩ (.slice A2 x2.length c2)).setCell ⟨w.heap.size,4,none⟩ (.slice A3 x3.length c3)):=(((((((qBO _ _).setCell (p:=⟨w.heap.size+1,4,none⟩) (Nat.le_succ _) _).setCell (p:=⟨w.heap.size,0,none⟩) (qBL _) _).setCell (p:=⟨w.heap.size,1,none⟩) (qBL _) _).setCell (p:=⟨w.heap.size,2,none⟩) (qBL _) _).setCell (p:=⟨w.heap.size,3,none⟩) (qBL _) _).setCell (p:=⟨w.heap.size,4,none⟩) (qBL _) _);have hA:Abv (w.heap.size+2) w3 ((((((w3.setCell ⟨w.heap.size+1,4,none⟩ (.slice A3 x3.length c3)).setCell ⟨w.heap.size,0,none⟩ (.slice A0 x0.length c0)).setCell ⟨w.heap.size,1,none⟩ (.int .i64 x1.1)).setCell ⟨w.heap.size,2,none⟩ (.int .i64 x1.2)).setCell ⟨w.heap.size,3,none⟩ (.slice A2 x2.length c2)).setCell ⟨w.heap.size,4,none⟩ (.slice A3 x3.length c3)):=(((((((Abv.refl (w.heap.size+2) w3).set (w.heap.size+1) _ (by omega)).set w.heap.size _ (by omega)).set w.heap.size _ (by omega)).set w.heap.size _ (by omega)).set w.heap.size _ (by omega)).set w.heap.size _ (by omega));have ha3:=hA;have ha2:Abv (w.heap.size+2) w2 ((((((w3.setCell ⟨w.heap.size+1,4,none⟩ (.slice A3 x3.length c3)).setCell ⟨w.heap.size,0,none⟩ (.slice A0 x0.length c0)).setCell ⟨w.heap.size,1,none⟩ (.int .i64 x1.1)).setCell ⟨w.heap.size,2,none⟩ (.int .i64 x1.2)).setCell ⟨w.heap.size,3,none⟩ (.slice A2 x2.length c2)).setCell ⟨w.heap.size,4,none⟩ (.slice A3 x3.length c3)):=by
  have h1:=HA3.out.only HO3.out (by omega);exact⟨qBZ h1.1 ha3.1,fun b h2 h3=>(ha3.2 b h2 (qBN h3 h1.1)).trans (h1.2 b h2 h3)⟩
 have ha1:Abv (w.heap.size+2) w1 ((((((w3.setCell ⟨w.heap.size+1,4,none⟩ (.slice A3 x3.length c3)).setCell ⟨w.heap.size,0,none⟩ (.slice A0 x0.length c0)).setCell ⟨w.heap.size,1,none⟩ (.int .i64 x1.1)).setCell ⟨w.heap.size,2,none⟩ (.int .i64 x1.2)).setCell ⟨w.heap.size,3,none⟩ (.slice A2 x2.length c2)).setCell ⟨w.heap.size,4,none⟩ (.slice A3 x3.length c3)):=by
  have h1:=HA2.out.only HO2.out (by omega);exact⟨qBZ h1.1 ha2.1,fun b h2 h3=>(ha2.2 b h2 (qBN h3 h1.1)).trans (h1.2 b h2 h3)⟩
 have ha0:Abv (w.heap.size+2) w0 ((((((w3.setCell ⟨w.heap.size+1,4,none⟩ (.slice A3 x3.length c3)).setCell ⟨w.heap.size,0,none⟩ (.slice A0 x0.length c0)).setCell ⟨w.heap.size,1,none⟩ (.int .i64 x1.1)).setCell ⟨w.heap.size,2,none⟩ (.int .i64 x1.2)).setCell ⟨w.heap.size,3,none⟩ (.slice A2 x2.length c2)).setCell ⟨w.heap.size,4,none⟩ (.slice A3 x3.length c3)):=by
  have h1:=HA1.out.only HO1.out (by omega);exact⟨qBZ h1.1 ha1.1,fun b h2 h3=>(ha1.2 b h2 (qBN h3 h1.1)).trans (h1.2 b h2 h3)⟩
 refine bodyPost_ret (v:= .agg #[.slice A0 x0.length c0,.int .i64 x1.1,.int .i64 x1.2,.slice A2 x2.length c2,.slice A3 x3.length c3]) (by simp[results,Tryz.results191,go_sem,q3r0,q3r1,q3r2,q3r3,q3r4]) rfl ?_;refine ReadsX.reads (x:=⟨x0,x1,x2,x3⟩) ⟨qBg HV3x.out.2.2.1 hF,_,rfl,?_,t3,HS3x.out.low hF hg,?_⟩
 · refine⟨_,_,_,rfl,HI1.out,HI2.out,?_,?_,?_⟩
   · exact tysL.wide (tysL.up HQ0.out ha0 (by omega)) fun b hb=>⟨by omega,hb.2⟩
   · exact tysL.wide (tysL.up HQ2.out ha2 (by omega)) fun b hb=>⟨by omega,hb.2⟩
   · exact codL.wide (codL.up HQ3.out ha3 (by omega)) fun b hb=>⟨by omega,hb.2⟩
 · have g1:=Got.two ((qCr hr8).gL 0 4 (by omega)) (gd':=fun _ t=>goodT r t=true) HG0.out HG1.out
   have pf1:PF (fun p:List Typ×Typ=>lB tB p.1++tB p.2) (fun p=>gL 0 4 (fun t=>goodT r t=true) p.1∧goodT r p.2=true):=((qCr hr8).gL 0 4 (by omega)).pair (gd':=fun _ t=>goodT r t=true) (fun _ _=>qCr hr8);have g2:=Got.two pf1 (gd':=fun p ts=>gL 0 (8-p.1.length) (fun t=>goodT r t=true) ts) g1 HG2.out;have pf2:PF (fun p:(List Typ×Typ)×List Typ=>(lB tB p.1.1++tB p.1.2)++lB tB p.2) (fun p=>(gL 0 4 (fun t=>goodT r t=true) p.1.1∧goodT r p.1.2=true)∧gL 0 (8-p.1.1.length) (fun t=>goodT r t=true) p.2):=pf1.pair (gd':=fun p ts=>gL 0 (8-p.1.length) (fun t=>goodT r t=true) ts) (fun p _=>(qCr hr8).gL 0 _ (by omega));have g3:=Got.two pf2 (gd':=fun _ c=>gL 1 64 (fun t=>goodIn t=true) c) g2 HG3.out;refine g3.map (fun p:((List Typ×Typ)×List Typ)×List Ins=>(⟨p.1.1.1,p.1.1.2,p.1.2,p.2⟩:Fn)) (fun x=>by simp[fnB]) (fun x=> ?_) (fun y=>⟨(((y.args,y.ret),y.locs),y.code),rfl⟩);rw[qON];simp only[and_assoc]
end Go.Proofs.YtgdbhanhmenmfaaGreat
