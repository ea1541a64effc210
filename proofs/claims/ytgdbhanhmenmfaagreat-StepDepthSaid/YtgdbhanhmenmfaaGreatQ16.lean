/-
Rdr Rdv Rfd
-/
import Derived.Test.YtgdbhanhmenmfaaGreatQ01
import Derived.Test.YtgdbhanhmenmfaaGreatQ02
import Derived.Test.YtgdbhanhmenmfaaGreatQ15
import Derived.RangeFuncNested
import Derived.RangeFuncBound
import Derived.RangeFuncCalls
import Derived.RangeFuncLeaves
import Derived.RangeFuncBox
import Derived.Shelf.Abstract
import Derived.Shelf.RegionOpen
import Derived.OwnWalkIn
import Derived.TacticsInMore
import Derived.LoopNIn
import Derived.LoopIn
import Derived.Laws.BitsAllLaws
import Derived.Laws.Bits64
set_option linter.unusedSimpArgs false
set_option linter.unusedVariables false
set_option maxRecDepth 100000
set_option maxHeartbeats 2000000
namespace Go.Proofs.YtgdbhanhmenmfaaGreat
open Go.RowKit
variable {B g:Nat}{w w':World}{xs:List Nat}
theorem zK {P:Prop} (h:P:=by
 go_enter Tryz.func238,Tryz.ntmps238
 go_wp2_with (first|(go_at_call 130;refine hb.out.mono ?_;rintro e w' ⟨rfl,rfl⟩)|(go_at_call 237;refine hs.out.mono ?_;rintro e w' ⟨rfl,hB,hO⟩))
 go_ret;exact⟨rfl,hB,hO⟩):P:=h
theorem zw {P:Prop} (h:P:=by
 go_wp2
 go_ret3
 exact⟨rfl,.inl ⟨_,_,hy.out,qIU (qHU xs k x hlt1 HM.out.1 (by omega) HX.out hx256 hy.out.2.2)⟩⟩):P:=h
def Good (w:World) (g:Nat) (xs:List Nat):Prop:=
 ∃A c,Blk w g 270 #[.slice A xs.length c,.bool false]∧xs.length≤c∧c≤maxLen∧Byt (·<g) w A xs
def Bad (w:World) (g:Nat):Prop:=Blk w g 270 #[.slice none 0 0,.bool true]
theorem Good.lt (h:Good w g xs):g<w.heap.size:=by
 obtain⟨_,_,h,_⟩:=h;exact h.lt
theorem Bad.lt (h:Bad w g):g<w.heap.size:=Blk.lt h
theorem Good.keep (h:Good w g xs) (hk:∀b,b≤g→w'.heap[b]? =w.heap[b]?):Good w' g xs:=by
 obtain⟨A,c,h,hlc,hcm,hB⟩:=h;exact⟨A,c,(hk g (qBL _)).trans h,hlc,hcm,hB.keep fun b hb=>hk b (Nat.le_of_lt hb)⟩
theorem Good.below (h:Good w g xs) (hb:Below B w w') (hg:g<B):Good w' g xs:=h.keep fun b hbg=>hb.block b (by omega)
theorem Bad.below (h:Bad w g) (hb:Below B w w') (hg:g<B):Bad w' g:=(hb.block g hg).trans h
theorem Bad.alloc (h:Bad w g) (o:Obj):Bad (w.alloc o) g:=(qBX w o g h.lt).trans h
theorem Good.alloc (h:Good w g xs) (o:Obj):Good (w.alloc o) g xs:=h.keep fun b hb=>qBX w o b (by have:=h.lt;omega)
theorem qBq (g:Nat) (v:Value) (b:Bool) (w:World) (h:Blk w g 270 #[v,.bool b]):Calls Tryz.prog 130 #[.pointer (some ⟨g,0,none⟩)] w fun e w'=>e= .returned (.bool b)∧w=w':=by
 have h1:=h.cell 1;simp at h1;clear h
 go_enter Tryz.func130,Tryz.ntmps130
 go_wp2
 go_ret;exact⟨rfl,rfl⟩
theorem qB4 (g:Nat) (xs:List Nat) (w:World) (h:Good w g xs):Calls Tryz.prog 131 #[.pointer (some ⟨g,0,none⟩)] w fun e w'=>e= .returned (.int .i64 (xs.length:Nat))∧w=w':=by
 obtain⟨A,c,h,_,_,_⟩:=h;have hb:=qBK (qBq g _ _ w h);have h0:=h.cell 0;simp at h0;clear h
 go_enter Tryz.func131,Tryz.ntmps131
 go_wp2_with (go_at_call 130;refine hb.out.mono ?_;rintro e w' ⟨rfl,rfl⟩)
 go_ret;exact⟨rfl,rfl⟩
theorem qH6 (g:Nat) (xs:List Nat) (w:World) (h:Good w g xs):Calls Tryz.prog 237 #[.pointer (some ⟨g,0,none⟩)] w fun e w'=>e= .returned (.tuple #[])∧Bad w' g∧Only g w w':=by
 obtain⟨A,c,h,_,_,_⟩:=h;have hk:=qBK h;have h0:=h.cell 0;have h1:=h.cell 1;have f0:=h.frozen 0;have f1:=h.frozen 1;simp at h0 h1;clear h
 go_enter Tryz.func237,Tryz.ntmps237
 go_wp2
 go_end0
 refine⟨rfl,?_,?_⟩
 · have:=(hk.out.set 0 (.slice none 0 0)).set 1 (.bool true)
   unfold Bad;simpa using this
 · exact qCX (qCX (qBv g w) _ _) _ _
theorem qCJ (A:Option Addr) (n c:Nat) (xs:List Nat) (w:World) (hx:xs.length=n) (hb:Byt (·<w.heap.size) w A xs) (hn:n≤140737488355328):
 Calls Tryz.prog 129 #[.slice A n c] w fun e w'=>∃g,e= .returned (.pointer (some ⟨g,0,none⟩))∧Good w' g xs∧w.heap.size≤g∧Below w.heap.size w w':=by
 have hc:=qBK (qG3 A n c xs w hx hb hn);clear hx hb
 go_enter Tryz.func129,Tryz.ntmps129
 go_wp2_with (go_at_call 198
              refine hc.out.mono ?_;rintro e w1 ⟨v,rfl,hown,hbel⟩;obtain⟨A',c',rfl,hl,hlc,hcm,hB⟩:=qBu hown;have HO:=qBK hown;have HL:=qBK hl;have HB:=qBK hB;clear hown hl hB)
 go_ret;have hsz:=hbel.size;refine⟨w1.heap.size,rfl,⟨A',c',?_,by rw[←HL.out];exact hlc,hcm,?_⟩,hsz,hbel.alloc hsz _⟩
 · rw[←HL.out];exact heap_alloc_new w1 _
 · exact(HB.out.keep fun b hb=>qBX w1 _ b hb.2).wide fun b hb=>hb.2
theorem qLB (g:Nat) (n:Int) (w:World) (h:Bad w g):Calls Tryz.prog 238 #[.pointer (some ⟨g,0,none⟩),.int .i64 n] w fun e w'=>e= .returned (.slice none 0 0)∧w=w':=by
 have hb:=qBK (qBq g _ _ w h);clear h
 go_enter Tryz.func238,Tryz.ntmps238
 go_wp2_with (go_at_call 130;refine hb.out.mono ?_;rintro e w' ⟨rfl,rfl⟩)
 go_ret;exact⟨rfl,rfl⟩
theorem qGw (g:Nat) (n:Int) (xs:List Nat) (w:World) (h:Good w g xs) (hn:n<0∨(xs.length:Int)<n):
 Calls Tryz.prog 238 #[.pointer (some ⟨g,0,none⟩),.int .i64 n] w fun e w'=>e= .returned (.slice none 0 0)∧Bad w' g∧Only g w w':=by
 have hs:=qBK (qH6 g xs w h);obtain⟨A,c,h,_,_,_⟩:=h;have hb:=qBK (qBq g _ _ w h);have h0:=h.cell 0;simp at h0;clear h;rcases hn with hn|hn
 · exact zK
 · have hn':¬n<0:=by omega
   exact zK
theorem qKO (g:Nat) (k:Nat) (xs:List Nat) (w:World) (h:Good w g xs) (hk:k≤xs.length):
 Calls Tryz.prog 238 #[.pointer (some ⟨g,0,none⟩),.int .i64 (k:Nat)] w fun e w'=>∃A c,e= .returned (.slice A k c)∧Byt (·<g) w' A (xs.take k)∧k≤c∧c≤maxLen∧Good w' g (xs.drop k)∧Only g w w':=by
 obtain⟨A,c,h,hlc,hcm,hB⟩:=h;have hb:=qBK (qBq g _ _ w h);have h0:=h.cell 0;have f0:=h.frozen 0;simp at h0;have hk':=qBK h;have HB:=qBK hB;have hkc:k≤c:=by omega
 have hk0:¬(k:Int)<0:=by omega
 clear h hB
 by_cases hck:c=k
 · go_enter Tryz.func238,Tryz.ntmps238
   go_wp2_with (first|(go_at_call 130;refine hb.out.mono ?_;rintro e w' ⟨rfl,rfl⟩))
   go_ret;refine⟨A,k,rfl,(HB.out.keep fun b hb=>qBP _ _ _ _ qK).take k,qBL _,by omega,⟨A,0,?_,by simp;omega,by simp[maxLen],?_⟩,qCX (qBv g w) _ _⟩
   · have:=hk'.out.set 0 (.slice A (xs.length-k) 0)
     rw[List.length_drop];simpa using this
   · have e:xs.drop k=[]:=qBY qK
     rw[e];exact Byt.nil _ _ _
 · go_enter Tryz.func238,Tryz.ntmps238
   go_wp2_with (first|(go_at_call 130;refine hb.out.mono ?_;rintro e w' ⟨rfl,rfl⟩))
   go_ret;refine⟨A,c,rfl,(HB.out.keep fun b hb=>qBP _ _ _ _ qK).take k,hkc,hcm,⟨_,c-k,?_,by simp;omega,by omega,(HB.out.keep fun b hb=>qBP _ _ _ _ qK).drop k⟩,qCX (qBv g w) _ _⟩;have:=hk'.out.set 0 (.slice (A.map (·.add k)) (xs.length-k) (c-k));rw[List.length_drop];simpa using this
def Lead (xs:List Nat) (w:World) (e:Ending) (w':World):Prop:=
 w=w'∧((∃v n:Nat,IsVar xs v n∧e= .returned (.tuple #[.int .u64 (v:Nat),.int .i64 (n:Nat),.bool true]))∨
  ((¬∃v n,IsVar xs v n)∧e= .returned (.tuple #[.int .u64 0,.int .i64 0,.bool false])))
theorem or_var (s x k:Nat) (hs:s<128 ^ k) (hx:x<256) (hfit:s+x % 128*128 ^ k<B64):
 bits .or .u64 (s:Int) (IntKind.u64.wrap (IntKind.u64.wrap (bits .andNot .u8 (x:Int) 128)*2 ^ (7*k)))=((s+x % 128*128 ^ k:Nat):Int):=by
 unfold B64 at hfit;have e1:bits .andNot .u8 (x:Int) 128=((x % 128:Nat):Int):=by
  have:=u8_andNot_nat x 128 hx (by omega);rw[←nat_mask7];exact this
 have e2:(2:Int) ^ (7*k)=((128 ^ k:Nat):Int):=by
  have:(128:Nat) ^ k=2 ^ (7*k):=by rw[Nat.pow_mul]
  rw[this,Int.natCast_pow];rfl
 have e3:((x % 128:Nat):Int)*((128 ^ k:Nat):Int)=((x % 128*128 ^ k:Nat):Int):=by rw[Int.natCast_mul]
 rw[e1,IntKind.wrap_u64 ((x % 128:Nat):Int),show((x % 128:Nat):Int) % 18446744073709551616=((x % 128:Nat):Int) by omega,e2,e3,IntKind.wrap_u64,
  show((x % 128*128 ^ k:Nat):Int) % 18446744073709551616=((x % 128*128 ^ k:Nat):Int) by omega,u64_or_nat _ _ (by omega) (by omega),Nat.or_comm]
 have e4:(2:Nat) ^ (7*k)=128 ^ k:=by rw[Nat.pow_mul]
 rw[nat_join (7*k) (x % 128*128 ^ k) s (by rw[e4];exact Nat.mul_mod_left _ _) (by rw[e4];exact hs),Nat.add_comm]
theorem qHU (xs:List Nat) (k x:Nat) (hk:k<xs.length) (hkl:k≤xs.length) (_:k≤9) (hx:xs[k]?.getD 0=x) (hx2:x<256) (hfit:sv (xs.take (k+1))<B64):
 bits .or .u64 ((sv (xs.take k):Nat):Int) (IntKind.u64.wrap (IntKind.u64.wrap (bits .andNot .u8 (x:Int) 128)*2 ^ (7*k)))=((sv (xs.take (k+1)):Nat):Int):=by
 rw[qKj xs k hk,hx] at hfit⊢;exact or_var _ _ _ (qHI xs k hkl) hx2 hfit
theorem qIU {a b:Int} {k:Nat} (h:a=b):Ending.returned (.tuple #[.int .u64 a,.int .i64 ((k:Int)+1),.bool true])= .returned (.tuple #[.int .u64 b,.int .i64 ((k+1:Nat):Int),.bool true]):=by rw[h];rfl
theorem qE7 (A:Option Addr) (c:Nat) (xs:List Nat) (w:World) (S:Nat→Prop) (hB:Byt S w A xs) (hb:∀x∈xs,x<256) (hc:xs.length≤140737488355328):
 Calls Tryz.prog 236 #[.slice A xs.length c] w (Lead xs w):=by
 have HB:=qBK hB;have Hb:=qBK hb;clear hB hb;have hmin:min (xs.length:Int) 10=((min xs.length 10:Nat):Int):=by omega
 go_enter Tryz.func236,Tryz.ntmps236
 go_wp2
 all_goals
  go_loop [2,10] (fun v i=>∃k:Nat,More xs k∧k≤10∧i= .int .i64 (k:Nat)∧v= .int .u64 (sv (xs.take k):Nat)) (fun _ i=>10-(intOf i).toNat)
  case atStart=>exact⟨0,More.zero xs,by omega,rfl,by simp[sv]⟩
  case round=>
   obtain⟨k,hm,hk10,rfl,rfl⟩:=hrel;have HM:=qBK hm;have hkl:=hm.1;clear hm
   by_cases hlt:k<xs.length∧k<10
   · obtain⟨hlt1,hlt2⟩:=hlt
     obtain⟨a,rfl,_,hcell⟩:=HB.out.at (k:=k) hlt1;obtain⟨x,hx⟩:∃x,xs[k]?.getD 0=x:=⟨_,rfl⟩;rw[hx] at hcell;have HX:=qBK hx;have hx256:x<256:=by
      rw[←hx];simp only[hlt1,List.getElem?_eq_getElem,Option.getD_some];exact Hb.out _ (List.getElem_mem hlt1)
     clear hx
     by_cases e9:k=9
     · have b9:((k:Int)==9)=true:=by simp;omega
       have HE:=qBK e9;clear e9
       by_cases x1:1<x
       · have d1:decide ((1:Int)<(x:Int))=true:=by simp;omega
         go_wp2
         go_ret3
         refine⟨rfl,.inr ⟨?_,rfl⟩⟩;have hm:=HM.out;have hx:=HX.out;rw[HE.out] at hm hx;exact qNU hm (by omega)
       · have d1:decide ((1:Int)<(x:Int))=false:=by simp;omega
         have d2:decide ((x:Int)<128)=true:=by simp;omega
         have d3:0<k:=by have:=HE.out;omega
         have hk9:k≤9:=by omega
         by_cases x0:x=0
         · have d4:((x:Int)==0)=true:=by simp;omega
           have hx0:=qBK x0;clear x0
           go_wp2
           go_ret3
           exact⟨rfl,.inr ⟨qKz HM.out (by have:=HE.out;omega) (HX.out.trans hx0.out),rfl⟩⟩
         · have d4:((x:Int)==0)=false:=by simp;omega
           have hy:=qBK (qHC (i:=k) Hb.out HM.out hlt1 hk9 q9 q9 q9);clear x0
           go_wp2
           go_ret3
           exact⟨rfl,.inl ⟨_,_,hy.out,qIU (qHU xs k x hlt1 HM.out.1 hk9 HX.out hx256 hy.out.2.2)⟩⟩
     · have b9:((k:Int)==9)=false:=by simp;omega
       have hk9:k<9:=by omega
       have HE:=qBK e9;clear e9
       by_cases h128:x<128
       · have d2:decide ((x:Int)<128)=true:=by simp;omega
         by_cases x0:x=0
         · have d4:((x:Int)==0)=true:=by simp;omega
           have hx0:=qBK x0;clear x0
           by_cases k0:0<k
           · have d3:decide ((0:Int)<(k:Int))=true:=by simp;omega
             go_wp2
             go_ret3
             exact⟨rfl,.inr ⟨qKz HM.out k0 (HX.out.trans hx0.out),rfl⟩⟩
           · have d3:decide ((0:Int)<(k:Int))=false:=by simp;omega
             have hy:=qBK (qHC (i:=k) Hb.out HM.out hlt1 (by omega) q9 (by omega) (by omega));exact zw
         · have d4:((x:Int)==0)=false:=by simp;omega
           have hy:=qBK (qHC (i:=k) Hb.out HM.out hlt1 (by omega) q9 q9 (by omega));clear x0;exact zw
       · have d2:decide ((x:Int)<128)=false:=by simp;omega
         go_wp2
         refine⟨⟨k+1,HM.out.succ hlt1 q9,by omega,by simp,?_⟩,by simp[intOf];omega⟩;have hs:=qHI xs (k+1) (by omega);have hp:=qNF (k+1) (by omega);rw[qHU xs k x hlt1 HM.out.1 (by omega) HX.out hx256 qj]
   · go_wp2
     go_ret3
     refine⟨rfl,.inr ⟨no_end HM.out (by omega),rfl⟩⟩
theorem qC3 (g:Nat) (w:World) (h:Bad w g):Calls Tryz.prog 185 #[.pointer (some ⟨g,0,none⟩)] w fun e w'=>e= .returned (.int .u64 0)∧w=w':=by
 have hb:=qBK (qBq g _ _ w h);clear h
 go_enter Tryz.func185,Tryz.ntmps185
 go_wp2_with (go_at_call 130;refine hb.out.mono ?_;rintro e w' ⟨rfl,rfl⟩)
 go_ret;exact⟨rfl,rfl⟩
theorem qNj {v n:Nat} {e:Ending} (h:Lead xs w e w') (hv:IsVar xs v n):e= .returned (.tuple #[.int .u64 (v:Nat),.int .i64 (n:Nat),.bool true])∧w=w':=by
 obtain⟨hw,⟨v',n',h',he⟩|⟨hno,_⟩⟩:=h
 · obtain⟨rfl,rfl⟩:=qCF hv h'
   exact⟨he,hw⟩
 · exact absurd ⟨v,n,hv⟩ hno
theorem lead_no {e:Ending} (h:Lead xs w e w') (hv:¬∃v n,IsVar xs v n):e= .returned (.tuple #[.int .u64 0,.int .i64 0,.bool false])∧w=w':=by
 obtain⟨hw,⟨v',n',h',he⟩|⟨hno,he⟩⟩:=h
 · exact absurd ⟨v',n',h'⟩ hv
 · exact⟨he,hw⟩
theorem qB1 (g:Nat) (xs:List Nat) (v n:Nat) (w:World) (h:Good w g xs) (hb:∀x∈xs,x<256) (hv:IsVar xs v n) (hl:xs.length≤140737488355328):
 Calls Tryz.prog 185 #[.pointer (some ⟨g,0,none⟩)] w fun e w'=>e= .returned (.int .u64 (v:Nat))∧Good w' g (xs.drop n)∧Only g w w':=by
 have hc:=qBK (qKO g n xs w h hv.1);obtain⟨A,c,h,_,_,hB⟩:=h;have hl:=qBK ((qE7 A c xs w _ hB hb hl).mono fun e w' he=>qNj he hv);have hbd:=qBK (qBq g _ _ w h);have h0:=h.cell 0;simp at h0;clear h hB hb hv
 go_enter Tryz.func185,Tryz.ntmps185
 go_wp2_with (first
  |(go_at_call 130;refine hbd.out.mono ?_;rintro e w' ⟨rfl,rfl⟩)
  |(go_at_call 236;refine hl.out.mono ?_;rintro e w' ⟨rfl,rfl⟩)
  |(go_at_call 238;refine hc.out.mono ?_;rintro e w2 ⟨A2,c2,rfl,_,_,_,hG,hO⟩;have HG:=qBK hG;have HO:=qBK hO;clear hG hO))
 go_ret;exact⟨rfl,HG.out,HO.out⟩
theorem qDE (g:Nat) (xs:List Nat) (w:World) (h:Good w g xs) (hb:∀x∈xs,x<256) (hv:¬∃v n,IsVar xs v n) (hl:xs.length≤140737488355328):
 Calls Tryz.prog 185 #[.pointer (some ⟨g,0,none⟩)] w fun e w'=>e= .returned (.int .u64 0)∧Bad w' g∧Only g w w':=by
 have hs:=qBK (qH6 g xs w h);obtain⟨A,c,h,_,_,hB⟩:=h;have hl:=qBK ((qE7 A c xs w _ hB hb hl).mono fun e w' he=>lead_no he hv);have hbd:=qBK (qBq g _ _ w h);have h0:=h.cell 0;simp at h0;clear h hB hb hv
 go_enter Tryz.func185,Tryz.ntmps185
 go_wp2_with (first
  |(go_at_call 130;refine hbd.out.mono ?_;rintro e w' ⟨rfl,rfl⟩)
  |(go_at_call 236;refine hl.out.mono ?_;rintro e w' ⟨rfl,rfl⟩)
  |(go_at_call 237;refine hs.out.mono ?_;rintro e w2 ⟨rfl,hG,hO⟩;have HG:=qBK hG;have HO:=qBK hO;clear hG hO))
 go_ret;exact⟨rfl,HG.out,HO.out⟩
open Go.Shelf
attribute [local go_sem] Oper.semAt_some
def bk (xs:List Nat) (m:Nat):List (Nat×Nat):=(List.range (xs.length-m)).map fun j=>(xs.length-1-j,xs[xs.length-1-j]?.getD 0)
theorem qLE (xs:List Nat) (m:Nat) (h:m<xs.length):bk xs m=bk xs (m+1)++[(m,xs[m]?.getD 0)]:=by
 unfold bk;have e:xs.length-m=(xs.length-(m+1))+1:=by omega
 have e2:xs.length-1-(xs.length-(m+1))=m:=by omega
 rw[e,List.range_succ,List.map_append,List.map_cons,List.map_nil,e2]
theorem qOg (xs:List Nat):bk xs xs.length=[]:=by simp[bk]
theorem qMX (xs:List Nat) (m:Nat):(bk xs m).length=xs.length-m:=by simp[bk]
def Kb (Bv n1:Nat) (W W':World):Prop:=∀k,k<n1→k≠Bv→W'.heap[k]? =W.heap[k]?
theorem Kb.refl (Bv n1:Nat) (W:World):Kb Bv n1 W W:=fun _ _ _=>rfl
theorem Kb.trans {Bv n1:Nat} {A B C:World} (h:Kb Bv n1 A B) (k:Kb Bv n1 B C):Kb Bv n1 A C:=fun i hi hn=>(k i hi hn).trans (h i hi hn)
theorem qOj (F:Fence) (n:Nat) (h28:F.fn 272) (hro:F.round=none) (hn:1≤n) (l Bs Bv n1 c:Nat) (A:Option Addr) (xs:List Nat) (hlen:xs.length≤1000000) (hbs:Bs<n1) (hne:Bs≠Bv) (J Jx:List (Nat×Nat)→World→Prop)
 (hY:∀pre x W,J pre W→pre.length<xs.length→YieldAt F (n-1) Tryz.prog l #[.int .i64 (x.1:Nat),.int .u8 (x.2:Nat)] W fun e W'=>
   (e= .returned (.bool true)∧J (pre++[x]) W'∧Kb Bv n1 W W')∨(e= .returned (.bool false)∧Jx (pre++[x]) W'))
 (W:World) (hBs:W.cell? ⟨Bs,0,none⟩=some (.slice A xs.length c)) (hB:Byt (fun b=>b<n1∧b≠Bv) W A xs) (h0:J [] W):
 CallsIn F n Tryz.prog 272 #[.func (.yield l) #[] #[],.pointer (some ⟨Bs,0,none⟩)] W fun e W'=>(∃v,e= .returned v)∧
  ((∃ys,ys=bk xs 0∧J ys W')∨(∃pre,True∧Jx pre W')):=by
 have HB:=qBK hB;clear hB;refine callsIn_of_wp Tryz.func272 rfl h28 ?_ hro;simp only[Tryz.ntmps272,List.size_toArray,List.length_cons,List.length_nil,Nat.reduceAdd,Nat.reduceSub,Array.replicate_succ,Array.replicate_zero,List.push_toArray,List.append_toArray,List.nil_append,List.cons_append]
 gi_wp2
 gi_loopw [3] (fun i wr=>∃m:Nat,m≤xs.length∧i= .int .i64 ((m:Int)-1)∧J (bk xs m) wr∧Kb Bv n1 W wr)
  (fun i _=>(intOf i+1).toNat)
 case atStart=>exact⟨xs.length,qBL _,rfl,by rw[qOg];exact h0,Kb.refl _ _ _⟩
 case round=>
  obtain⟨m,hm,rfl,hJs,hnx⟩:=hrel;have HK:=qBK hnx;have hcs:wr.cell? ⟨Bs,0,none⟩=some (.slice A xs.length c):=(qBd (a:=⟨Bs,0,none⟩) (hnx Bs hbs hne)).trans hBs;clear hnx hBs
  cases m with
  |zero=>
   gi_wp2
   go_end0
   exact⟨⟨_,rfl⟩,.inl ⟨_,rfl,hJs⟩⟩
  |succ m=>
   obtain⟨a,rfl,ha,hc⟩:=HB.out.at (k:=m) (by omega);have hcx:wr.cell? (a.add m)=some (.int .u8 ((xs[m]?.getD 0:Nat):Int)):=(qBd (HK.out _ (by rw[qBn];exact ha.1) (by rw[qBn];exact ha.2))).trans hc;obtain⟨fn,tmps,assign,body,hy,hR⟩:=hY _ (m,xs[m]?.getD 0) wr hJs (by rw[qMX];omega);dsimp only at hy;have e1:((m+1:Nat):Int)-1=(m:Int):=by omega
   rw[e1];clear hc ha e1
   gi_wp2
   refine hR.mono ?_;rintro e W3 (⟨rfl,hJ3,hk3⟩|⟨rfl,hJx3⟩)
   · gi_wp2
     go_roundw
     case rel=>exact⟨m,by omega,by first|rfl|simp,by rw[qLE xs m (by omega)];exact hJ3,HK.out.trans hk3⟩
     case measure=>simp[intOf]
   · gi_wp2
     refine bodyPost_ret (results_none rfl _ _ _) rfl ?_;exact⟨⟨_,rfl⟩,.inr ⟨_,trivial,hJx3⟩⟩
theorem qKZ (n:Nat) (hn:1≤n) (Bs Bv n1 c:Nat) (A:Option Addr) (xs:List Nat) (hlen:xs.length≤1000000) (hbs:Bs<n1) (hne:Bs≠Bv) (w:World) (hsz:n1≤w.heap.size)
 (hBs:w.cell? ⟨Bs,0,none⟩=some (.slice A xs.length c)) (hB:Byt (fun b=>b<n1∧b≠Bv) w A xs):
 SeqStopsK Fence.wide n Tryz.prog 272 #[.pointer (some ⟨Bs,0,none⟩)] (fun x:Nat×Nat=> #[Value.int .i64 (x.1:Nat),Value.int .u8 (x.2:Nat)]) (Kb Bv n1) (fun ys=>ys=bk xs 0) (fun _=>True) xs.length w:=fun l J Jx W hW _ _ hY h0=>by
 exact qOj Fence.wide n trivial rfl hn l Bs Bv n1 c A xs hlen hbs hne J Jx hY W ((hW.cell (p:=⟨Bs,0,none⟩) (by show Bs<w.heap.size;omega)).trans hBs) (hB.keep fun b hb=>hW.block b (by omega)) h0
theorem qHo (a:Option Addr) (len cap:Nat) (w:World):
 Calls Tryz.prog 268 #[.slice a len cap] w fun e w'=>e= .returned (.func (.func 272) #[] #[.pointer (some ⟨w.heap.size,0,none⟩)])∧w.alloc (.cells #[.slice a len cap] 76)=w':=by
 go_enter Tryz.func268,Tryz.ntmps268
 go_wp2
 go_ret;exact⟨rfl,rfl⟩
theorem kb_put {Bv n1:Nat} (hn:n1≤w.heap.size) (W:World) (l:Nat) (o o':Obj) (hl:w.heap.size≤l) (_:W.heap[l]? =some o) (_:o.isCells=false) (_:o.isWalk=false):Kb Bv n1 W (W.putObj l o'):=
 fun k hk _=>by
  have:l≠k:=by omega
  simp[World.putObj,this]
def fo (pre:List (Nat×Nat)):Int:=pre.foldl (fun s x=>bits .or .u64 (IntKind.u64.wrap (s*256)) (IntKind.u64.wrap (x.2:Nat))) 0
theorem qK6 (pre:List (Nat×Nat)) (x:Nat×Nat):fo (pre++[x])=bits .or .u64 (IntKind.u64.wrap (fo pre*256)) (IntKind.u64.wrap (x.2:Nat)):=by simp[fo]
theorem qDq (p:Option Addr) (n:Int) (w:World) (R:List Nat→World→Prop)
 (hcut:Calls Tryz.prog 238 #[.pointer p,.int .i64 (wid n:Nat)] (w.alloc (.cells #[.int .u64 0] 32)) fun e w2=>∃A c ys,e= .returned (.slice A ys.length c)∧Byt (·<w.heap.size) w2 A ys∧ys.length≤8∧Boxed w2 w.heap.size 32 (.int .u64 0)∧R ys w2):
 Calls Tryz.prog 245 #[.pointer p,.int .i64 n] w fun e w'=>∃ys w2,R ys w2∧e= .returned (.int .u64 (fo (bk ys 0)))∧Below w.heap.size w2 w':=by
 have HC:=qBK hcut;clear hcut;refine(callsIn_wide (n:=3)).1 ?_;refine callsIn_of_wp_marks Tryz.func245 rfl trivial ?_ rfl;simp only[Tryz.ntmps245,List.size_toArray,List.length_cons,List.length_nil,Nat.reduceAdd,Nat.reduceSub,Array.replicate_succ,Array.replicate_zero,List.push_toArray,List.append_toArray,List.nil_append,List.cons_append]
 gi_wp2_with (first
  |(refine⟨trivial,?_⟩;gi_at_call 235;refine(callsIn_wide.2 (qGU _ _)).mono ?_;rintro e w' ⟨rfl,rfl⟩)
  |(refine⟨trivial,?_⟩;gi_at_call 238;refine(callsIn_wide.2 HC.out).mono ?_;rintro e w2 ⟨A,c,ys,rfl,hB,hl,hbx,hR⟩;have HB:=qBK hB;have HX:=qBK hbx;have HR:=qBK hR;clear hB hbx hR)
  |(refine⟨trivial,?_⟩;gi_at_call 268;refine(callsIn_wide.2 (qHo _ _ _ _)).mono ?_;rintro e w' ⟨rfl,rfl⟩))
 have bV:Boxed (w2.alloc (.cells #[.slice A ys.length c] 76)) w.heap.size 32 (.int .u64 0):=HX.out.alloc _;have hlt:w.heap.size<w2.heap.size:=HX.out.lt;have bS:=Boxed.new w2 76 (.slice A ys.length c);have hB0:Below w.heap.size w2 (w2.alloc (.cells #[.slice A ys.length c] 76)):=(qBO _ w2).alloc (by omega) _;refine wpIn_rangeFunc_ownG rfl (by omega) (gf:=272) (lb:= #[.pointer (some ⟨w2.heap.size,0,none⟩)]) rfl trivial (enters_of Tryz.func272 qR rfl)
  (qKZ 2 (by omega) w2.heap.size w.heap.size (w2.heap.size+1) c A ys (by omega) (by omega) (by omega) _ (by simp) bS.cell ((HB.out.keep fun b hb=>qBX w2 _ b (by omega)).wide fun b hb=>⟨by omega,by omega⟩))
  Kb.trans (kb_put (by simp)) (qBO _ _) (fun _=>rfl)
  (fun pre W=>Boxed W w.heap.size 32 (.int .u64 (fo pre))∧Below w.heap.size w2 W)
  (fun _ _ _=>False)
  (OwnFrom.and (Own.from (boxed_own _ _ _) _) (ownFrom_below (by omega) qK))
  (fun _ _ _ _ _ hs _ _=>hs)
  ⟨bV,hB0⟩
  (fun x=>{tmps:= #[.pointer p,.int .i64 n,undef,undef,.int .u64 0,.pointer (some ⟨w.heap.size,0,none⟩),undef,.int .u8 (x.2:Nat),.pointer p,.int .i64 n,.int .i64 (wid n:Nat),.slice A ys.length c,.func (.func 272) #[] #[.pointer (some ⟨w2.heap.size,0,none⟩)],.int .i64 (x.1:Nat),.int .u8 (x.2:Nat),undef,undef,undef,undef,undef,undef],defers:=[]}) ?assign ?body ?done ?stop
 case assign=>
  intro l x W K hK
  gi_wp2
  exact hK
 case body=>
  rintro l pre x W ⟨hb,hB⟩ _;have hc:=hb.cell;have hf:=hb.frozen
  gi_wp2
  refine⟨(KeepsOthers.setCell _ _ _).from _,fun k _ hne=>qBP _ _ _ _ hne,?_,hB.setCell (p:=⟨w.heap.size,0,none⟩) (qBL _) _⟩;rw[qK6];exact hb.set _
 case done=>
  rintro D zs W hD rfl ⟨hb,hB⟩ hK;have hc:=hb.cell
  gi_wp2
  refine⟨by simp,.inl ⟨_,_,rfl,run_takeDeferred hK,?_⟩⟩;exact⟨_,results_tmp rfl _ _ _,ys,w2,HR.out,rfl,hB.trans (belowK_b (w:=w2) (by omega) W D _ _ (by simp at hD;omega) hK rfl rfl)⟩
 case stop=>
  rintro D c pre W _ _ h _;exact h.elim
theorem qNK (s x:Nat) (hs:s<72057594037927936) (hx:x<256):bits .or .u64 (IntKind.u64.wrap ((s:Int)*256)) (IntKind.u64.wrap (x:Int))=((x+256*s:Nat):Int):=by
 rw[IntKind.wrap_u64,IntKind.wrap_u64,show((s:Int)*256) % 18446744073709551616=((s*256:Nat):Int) by omega,show(x:Int) % 18446744073709551616=(x:Int) by omega,u64_or_nat _ _ (by omega) (by omega),
  nat_join 8 (s*256) x (by omega) (by omega)]
 omega
theorem fo_bk (xs:List Nat) (h:∀x∈xs,x<256) (h8:xs.length≤8) (j:Nat) (hj:j≤xs.length):fo (bk xs (xs.length-j))=(le (xs.drop (xs.length-j)):Nat):=by
 induction j with
 |zero=>simp[qOg,fo,le]
 |succ j ih=>
  have hm:xs.length-(j+1)<xs.length:=by omega
  have e:xs.length-(j+1)+1=xs.length-j:=by omega
  rw[qLE xs _ hm,qK6,e,ih (by omega),qMF xs _ hm,e];have h1:=le_lt (xs.drop (xs.length-j)) (fun x hx=>h x (List.mem_of_mem_drop hx));have h2:=pow_le7 (xs.drop (xs.length-j)).length qK;refine qNK _ _ (by omega) ?_;simp only[hm,List.getElem?_eq_getElem,Option.getD_some];exact h _ (List.getElem_mem hm)
theorem fo_all (xs:List Nat) (h:∀x∈xs,x<256) (h8:xs.length≤8):fo (bk xs 0)=(le xs:Nat):=by
 have:=fo_bk xs h h8 xs.length (qBL _);simpa using this
theorem qFg (g:Nat) (n:Int) (w:World) (h:Bad w g):Calls Tryz.prog 245 #[.pointer (some ⟨g,0,none⟩),.int .i64 n] w fun e w'=>e= .returned (.int .u64 0)∧Below w.heap.size w w':=by
 refine(qDq _ n w (fun ys w2=>ys=[]∧Below w.heap.size w w2) ((qLB g _ _ (h.alloc _)).mono ?_)).mono ?_
 · rintro e w2 ⟨rfl,rfl⟩
   exact⟨none,0,[],rfl,Byt.nil _ _ _,by simp,Boxed.new w 32 _,rfl,(qBO _ w).alloc (qBL _) _⟩
 · rintro e w' ⟨ys,w2,⟨rfl,h2⟩,rfl,h3⟩
   exact⟨rfl,h2.trans h3⟩
theorem qGB {t:TypeId} {v:Value} {a b:World} (h:Boxed a B t v) (ho:Only g a b) (hne:B≠g):Boxed b B t v:=(ho.block B h.lt (fun e=>hne (by injection e))).trans h
theorem qEV (g:Nat) (n:Int) (xs:List Nat) (w:World) (h:Good w g xs) (hn:xs.length<wid n):
 Calls Tryz.prog 245 #[.pointer (some ⟨g,0,none⟩),.int .i64 n] w fun e w'=>e= .returned (.int .u64 0)∧Bad w' g∧Only g w w':=by
 refine(qDq _ n w (fun ys w2=>ys=[]∧Bad w2 g∧Only g w w2) ((qGw g _ xs _ (h.alloc _) (.inr (by omega))).mono ?_)).mono ?_
 · rintro e w2 ⟨rfl,hB,hO⟩
   exact⟨none,0,[],rfl,Byt.nil _ _ _,by simp,qGB (Boxed.new w 32 _) hO (by have:=h.lt;omega),rfl,hB,qBb (qBh _) hO⟩
 · rintro e w' ⟨ys,w2,⟨rfl,hB,hO⟩,rfl,h3⟩
   have hg:=h.lt;have hs:=hO.size;exact⟨rfl,hB.below h3 hg,qBg hO h3⟩
theorem qGb (g:Nat) (n:Int) (xs:List Nat) (w:World) (h:Good w g xs) (hb:∀x∈xs,x<256) (hn:wid n≤xs.length):
 Calls Tryz.prog 245 #[.pointer (some ⟨g,0,none⟩),.int .i64 n] w fun e w'=>e= .returned (.int .u64 (le (xs.take (wid n)):Nat))∧Good w' g (xs.drop (wid n))∧Only g w w':=by
 have hg:=h.lt;have hw:=qMe n;refine(qDq _ n w (fun ys w2=>ys=xs.take (wid n)∧Good w2 g (xs.drop (wid n))∧Only g w w2) ((qKO g (wid n) xs _ (h.alloc _) hn).mono ?_)).mono ?_
 · rintro e w2 ⟨A,c,rfl,hB,hkc,hcm,hG,hO⟩
   have hl:(xs.take (wid n)).length=wid n:=by simp;omega
   exact⟨A,c,xs.take (wid n),by rw[hl],hB.wide fun b hb=>by omega,by omega,qGB (Boxed.new w 32 _) hO (by omega),rfl,hG,qBb (qBh _) hO⟩
 · rintro e w' ⟨ys,w2,⟨rfl,hG,hO⟩,rfl,h3⟩
   refine⟨qHP (fo_all _ (fun x hx=>hb x (List.mem_of_mem_take hx)) qK),hG.below h3 hg,qBg hO h3⟩
end Go.Proofs.YtgdbhanhmenmfaaGreat
