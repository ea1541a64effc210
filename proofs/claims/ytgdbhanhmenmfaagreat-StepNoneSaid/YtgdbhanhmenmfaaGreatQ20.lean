/-
Rx
-/
import Derived.Test.YtgdbhanhmenmfaaGreatQ18
set_option linter.unusedSimpArgs false
set_option linter.unusedVariables false
set_option maxRecDepth 100000
set_option maxHeartbeats 2000000
namespace Go.Proofs.YtgdbhanhmenmfaaGreat
open Go.RowKit
theorem qH2 (rb g:Nat) (v0 v1 v2 v3 v4:Value) (r:Int) (s:Option (List Nat)) (w:World) (h:Mrd w rb g v0 v1 v2 v3 v4 r) (hs:St w g s):
 Calls Tryz.prog 197 #[.pointer (some ⟨rb,0,none⟩)] w (Reads strL vOne pt (fun s=>s.length≤32) g s w):=by
 have HM:=qBK h;have HS:=qBK hs;have hp:=h.ptr;have hrb:=h.2.lt
 by_cases hyes:∃v ys,v≤32∧s=some (vb v++ys)
 · obtain⟨v,ys,hv,rfl⟩:=hyes
   have HC:Hid (∀w1,Only g w w1→St w1 g (some (vb v++ys))→Calls Tryz.prog 187 #[.pointer (some ⟨rb,0,none⟩),.int .i64 0,.int .i64 32] w1 fun e w'=>e= .returned (.int .i64 (v:Int))∧St w' g (some ys)∧Only g w1 w'):=fun w1 ho h1=>qGx rb g v0 v1 v2 v3 v4 r 0 32 v ys w1 (HM.out.only ho) h1 (by omega) (by omega) (by omega) hv
   by_cases hlen:v≤ys.length
   · have HT:Hid (∀w1,St w1 g (some ys)→Calls Tryz.prog 239 #[.pointer (some ⟨g,0,none⟩),.int .i64 (v:Int)] w1 fun e w'=>∃u,e= .returned u∧w'.ownsRow w1.heap.size 5 1 u v (Bs (ys.take v))∧Good w' g (ys.drop v)∧Only g w1 w'):=fun w1 h1=>qKg g v ys w1 h1.1 hlen (by omega)
     have HL:Hid ((ys.take v).length=v):=by show(ys.take v).length=v;simp;omega
     have HBy:Hid (∀x∈ys.take v,x<256):=fun x hx=>hs.2.1 x (by simp[List.mem_of_mem_take hx]);clear h hs hlen
     go_enter Tryz.func197,Tryz.ntmps197
     go_wp2_with fail
     go_region_with (first
      |(go_at_call 187
        refine(HC.out w.drew (qCL ((qBO _ w).drew)) (HS.out.below ((qBO _ w).drew))).mono ?_;rintro e w1 ⟨rfl,hs1,ho1⟩;refine qAk ?_;intro HS1 HO1 hk1;clear hs1 ho1)
      |(go_at_call 239
        refine(HT.out _ HS1.out).mono ?_;rintro e w2 ⟨u,rfl,hown,hg2,ho2⟩;obtain⟨A2,c2,rfl,-,-,-,hY⟩:=qBu hown;obtain⟨str,hz,hcv⟩:=qF8 (c:=c2) HL.out hY HBy.out;refine qBC ?_;intro HZ HG2 HO2 hk2;clear hown hg2 ho2 hY hz))
     all_goals
      go_wp2_with fail
      go_ret;refine⟨qBb HO1.out HO2.out,[.string str],ys.take v,rfl,⟨str,rfl,HZ.out.symm⟩,.inl ⟨by show(ys.take v).length≤32;rw[HL.out];exact hv,_,ys.drop v,rfl,?_,?_⟩⟩
      · rw[pt,HL.out,List.append_assoc,List.take_append_drop]
      · refine HS.out.rest (ys:=vb v++ys.take v) ?_ HG2.out
        rw[List.append_assoc,List.take_append_drop]
   · have HT:Hid (∀w1,St w1 g (some ys)→Calls Tryz.prog 239 #[.pointer (some ⟨g,0,none⟩),.int .i64 (v:Int)] w1 fun e w'=>e= .returned (.slice none 0 0)∧Bad w' g∧Only g w1 w'):=fun w1 h1=>qFW g v ys w1 h1.1 (.inr (by omega))
     have HNO:Hid (∀xs,some (vb v++ys)=some xs→¬Has pt (fun s=>s.length≤32) xs):=by
      rintro xs e ⟨z,rest,hz,rfl⟩;injection e with e;rw[pt,List.append_assoc] at e;obtain⟨e1,e2⟩:=qB3 qj qj e;rw[e2] at hlen;simp at hlen
      omega
     clear h hs hlen
     go_enter Tryz.func197,Tryz.ntmps197
     go_wp2_with fail
     go_region_with (first
      |(go_at_call 187
        refine(HC.out w.drew (qCL ((qBO _ w).drew)) (HS.out.below ((qBO _ w).drew))).mono ?_;rintro e w1 ⟨rfl,hs1,ho1⟩;refine qAk ?_;intro HS1 HO1 hk1;clear hs1 ho1)
      |(go_at_call 239
        refine(HT.out _ HS1.out).mono ?_;rintro e w2 ⟨rfl,hg2,ho2⟩;obtain⟨str,hz,hcv⟩:=qF8 (w:=w2) (c:=0) (n:=0) (xs:=[]) rfl (Byt.nil (fun _=>True) w2 none) (by simp);refine qBC ?_;intro HZ HG2 HO2 hk2;clear hg2 ho2 hz))
     all_goals
      go_wp2_with fail
      go_ret;exact⟨qBb HO1.out HO2.out,[.string str],[],rfl,⟨str,rfl,HZ.out.symm⟩,.inr ⟨HG2.out,HNO.out⟩⟩
 · have HN0:∀xs,s=some xs→¬∃v rest,0≤v∧v≤32∧xs=vb v++rest:=by
    rintro xs rfl ⟨v,rest,_,h2,rfl⟩;exact hyes ⟨v,rest,h2,rfl⟩
   have HC:Hid (∀w1,Only g w w1→St w1 g s→Calls Tryz.prog 187 #[.pointer (some ⟨rb,0,none⟩),.int .i64 0,.int .i64 32] w1 fun e w'=>e= .returned (.int .i64 0)∧Bad w' g∧Only g w1 w'):=fun w1 ho h1=>qGz rb g v0 v1 v2 v3 v4 r 0 32 s w1 (HM.out.only ho) h1 (by omega) (by omega) HN0;have HT:Hid (∀w1,Bad w1 g→Calls Tryz.prog 239 #[.pointer (some ⟨g,0,none⟩),.int .i64 0] w1 fun e w'=>e= .returned (.slice none 0 0)∧Bad w' g∧Only g w1 w'):=fun w1 h1=>(qH3 g 0 w1 h1).mono fun e w' ⟨a,b⟩=>by subst b;exact⟨a,h1,qBv _ _⟩
   have HNO:Hid (∀xs,s=some xs→¬Has pt (fun s=>s.length≤32) xs):=by
    rintro xs rfl ⟨z,rest,hz,rfl⟩;exact hyes ⟨z.length,z++rest,hz,by simp[pt]⟩
   clear h hs hyes HN0
   go_enter Tryz.func197,Tryz.ntmps197
   go_wp2_with fail
   go_region_with (first
    |(go_at_call 187
      refine(HC.out w.drew (qCL ((qBO _ w).drew)) (HS.out.below ((qBO _ w).drew))).mono ?_;rintro e w1 ⟨rfl,hs1,ho1⟩;refine qAk ?_;intro HS1 HO1 hk1;clear hs1 ho1)
    |(go_at_call 239
      refine(HT.out _ HS1.out).mono ?_;rintro e w2 ⟨rfl,hg2,ho2⟩;obtain⟨str,hz,hcv⟩:=qF8 (w:=w2) (c:=0) (n:=0) (xs:=[]) rfl (Byt.nil (fun _=>True) w2 none) (by simp);refine qBC ?_;intro HZ HG2 HO2 hk2;clear hg2 ho2 hz))
   all_goals
    go_wp2_with fail
    go_ret;exact⟨qBb HO1.out HO2.out,[.string str],[],rfl,⟨str,rfl,HZ.out.symm⟩,.inr ⟨HG2.out,HNO.out⟩⟩
end Go.Proofs.YtgdbhanhmenmfaaGreat
